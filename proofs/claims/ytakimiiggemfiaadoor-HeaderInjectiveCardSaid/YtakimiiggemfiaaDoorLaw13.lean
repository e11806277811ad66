/-
  THE WALKS OF THE LAWS OF LAYER 13 (zoneinfolaw13): awake. No conditions.
-/
import Derived.Test.YtakimiiggemfiaaDoorHd
import Derived.Test.YtakimiiggemfiaaDoorBase2
import Derived.Test.YtakimiiggemfiaaDoorSame1
import Derived.Deep.RegionHeld3
import Derived.Deep.DeepCutAuto
namespace Go.Proofs.YtakimiiggemfiaaDoor
open Go.ChangeShapes Go.WideShapes Go.ChangeAt Go.RowKit
set_option linter.unusedVariables false
theorem elU8_ : ElT Tryd.prog 25 5 (.int .u8 0) 1 := ⟨Tryd.underlying25, by kernel_rfl, rfl⟩
theorem ow_nil_ (w : World) (T : TypeId) : Ow (w.alloc (.cells #[] T)) w.heap.size T (some ⟨w.heap.size, 0, none⟩) 0 0 [] := Ow.lit w T [] (by decide)
theorem ow_out {w : World} {b : Nat} {e : TypeId} {A : Option Addr} {n c : Nat} {xs : List Value} (h : Ow w b e A n c xs) {g : Nat} (o : Nat) (hg : some g ≠ (Value.slice A n c).ownBlock) (u : Value) : Ow (w.setCell ⟨g, o, none⟩ u) b e A n c xs :=
  ⟨by have := h.1; simpa [World.setCell] using this, ownsRow_setCell_other h.2 (a := ⟨g, o, none⟩) (fun h' => hg h'.symm) u⟩
theorem cells7 {w : World} {g : Nat} {a b c d e f k : Value} (h : Bx w g [a, b, c, d, e, f, k]) : w.cell? ⟨g, 0, none⟩ = some a ∧ w.cell? ⟨g, 1, none⟩ = some b ∧ w.cell? ⟨g, 2, none⟩ = some c ∧ w.cell? ⟨g, 3, none⟩ = some d ∧ w.cell? ⟨g, 4, none⟩ = some e ∧ w.cell? ⟨g, 5, none⟩ = some f ∧ w.cell? ⟨g, 6, none⟩ = some k :=
  ⟨h.2.1 0 _ rfl, h.2.1 1 _ rfl, h.2.1 2 _ rfl, h.2.1 3 _ rfl, h.2.1 4 _ rfl, h.2.1 5 _ rfl, h.2.1 6 _ rfl⟩
def hA_ : Hd := ⟨3, 0, 0, 0, 2, 1, 4⟩
def hB_ : Hd := ⟨1, 0, 0, 0, 0, 0, 1⟩
theorem hA_ok : hA_.ok := by refine ⟨by decide, by decide, ?_, ?_, ?_, ?_, ?_, ?_⟩ <;> (unfold U32 hA_; decide)
theorem hB_ok : hB_.ok := by refine ⟨by decide, by decide, ?_, ?_, ?_, ?_, ?_, ?_⟩ <;> (unfold U32 hB_; decide)
theorem aw_1 : decH (encH hA_) 0 = (⟨3, 0, 0, 0, 2, 1, 4⟩, 44, 0, 0) := by
  have := dec_enc [] [] hA_ hA_ok
  rw [List.append_nil, if_pos (by decide)] at this
  exact this
def aw_q : Int := (decH ((encH hA_).take 43) 0).2.1
theorem aw_2 : decH ((encH hA_).take 43) 0 = (⟨0, 0, 0, 0, 0, 0, 0⟩, aw_q, 1, 43) := by
  obtain ⟨q, h, _⟩ := dec_trunc hA_ hA_ok (k := 43) (by omega)
  have e : aw_q = q := by unfold aw_q; rw [h]
  rw [h, e]
  rfl
theorem aw_3 : decH ((encH hA_).set 4 49) 0 = (⟨0, 0, 0, 0, 0, 0, 0⟩, 4, 4, 4) := by
  have hl : ((encH hA_).set 4 49).length = 44 := rfl
  unfold decH
  rw [hl, if_neg (by omega), if_neg (not_not_intro (show fld ((encH hA_).set 4 49) 0 4 = magicL from rfl)), if_neg (by omega), if_pos (show verOf (((encH hA_).set 4 49)[0 + 4]?.getD 0) = 0 from rfl)]
  rfl
theorem aw_4 : decH (encH hB_) 0 = (⟨0, 0, 0, 0, 0, 0, 0⟩, 44, 6, 0) := by
  have := dec_enc [] [] hB_ hB_ok
  rw [List.append_nil, if_neg (by decide)] at this
  exact this
namespace l13_
set_option maxRecDepth 100000 in
set_option maxHeartbeats 8000000 in
theorem awake (w : World) (hT : Th w) : Calls Tryd.prog 7 #[] w fun e w' => e = .returned (.bool true) ∧ Below w.heap.size w w' := by
  have HT := hide hT
  have hb := hide (Below.refl w.heap.size w)
  have E1 := hide (fun w hT => hd_.Encode ⟨3, 0, 0, 0, 2, 1, 4⟩ w hT hA_ok)
  have E2 := hide (fun w hT => hd_.Encode ⟨1, 0, 0, 0, 0, 0, 1⟩ w hT hB_ok)
  have D1 := hide (fun A c w hT hr hA hn hc => hd_.Decode A 44 c 0 (encH hA_) w hT hr (encH_bytes hA_ok) hA hn hc (by decide) (by decide) aw_1)
  have D2 := hide (fun A c w hT hr hA hn hc => hd_.Decode A 43 c 0 ((encH hA_).take 43) w hT hr ((encH_bytes hA_ok).take 43) hA hn hc (by decide) (by decide) aw_2)
  have D3 := hide (fun A c w hT hr hA hn hc => hd_.Decode A 44 c 0 ((encH hA_).set 4 49) w hT hr ((encH_bytes hA_ok).set 4 (by decide) (by decide)) hA hn hc (by decide) (by decide) aw_3)
  have D4 := hide (fun A c w hT hr hA hn hc => hd_.Decode A 44 c 0 (encH hB_) w hT hr (encH_bytes hB_ok) hA hn hc (by decide) (by decide) aw_4)
  have K1 := hide (fun w hT => hd_.Consistent ⟨3, 0, 0, 0, 2, 1, 4⟩ w hT)
  have K2 := hide (fun w hT => hd_.Consistent ⟨0, 1, 0, 0, 0, 2, 1⟩ w hT)
  rw [show Hd.con ⟨3, 0, 0, 0, 2, 1, 4⟩ = true by decide] at K1
  rw [show Hd.con ⟨0, 1, 0, 0, 0, 2, 1⟩ = false by decide] at K2
  obtain ⟨q2, hq2⟩ : ∃ q2, q2 = aw_q := ⟨_, rfl⟩
  rw [← hq2] at D2
  clear hq2
  have hbx := hide (Bx.new w [.int .i64 3, .int .u32 0, .int .u32 0, .int .u32 0, .int .u32 2, .int .u32 1, .int .u32 4] 24)
  replace hb := hide (bl_alloc hb.out (.cells #[.int .i64 3, .int .u32 0, .int .u32 0, .int .u32 0, .int .u32 2, .int .u32 1, .int .u32 4] 24))
  go_enter Tryd.func7, Tryd.ntmps7
  go_upto_region 2 with fail
  generalize (w.alloc (.cells #[.int .i64 3, .int .u32 0, .int .u32 0, .int .u32 0, .int .u32 2, .int .u32 1, .int .u32 4] 24)) = w0 at *
  have c7 := cells7 hbx.out
  go_wp2_with fail
  clear c7
  refine (E1.out _ (HT.out.below hb.out)).mono ?_
  rintro e w1 ⟨A1, c1, rfl, o1, h1⟩
  have oc1 := o1.cap
  have om1 := o1.capMax
  have oi1 : (44 : Int) ≤ c1 := by omega
  have om1' : (c1 : Int) ≤ 9223372036854775807 := by simp [maxLen] at om1; omega
  obtain ⟨g1, rfl, hg1, _⟩ := o1.form (by omega)
  replace o1 := hide o1
  replace hb := hide (bel_next hb.out h1)
  replace hbx := hide (hbx.out.below h1)
  clear h1
  go_wp2_with fail
  refine (cu_.New _ _ _ _).mono ?_
  rintro e w2 ⟨rfl, h1⟩
  replace hb := hide (bel_next hb.out h1)
  replace hbx := hide (hbx.out.below h1)
  replace o1 := hide (o1.out.below h1)
  clear h1
  go_wp2_with fail
  refine (D1.out _ _ _ (HT.out.below hb.out) o1.out.rd (fun h => by cases h) (by omega) (by omega)).mono ?_
  rintro e w3 ⟨rfl, h1⟩
  replace hb := hide (bel_next hb.out h1)
  replace hbx := hide (hbx.out.below h1)
  replace o1 := hide (o1.out.below h1)
  clear h1
  have b3 := hide ((Bx.new w3 [.int .i64 3, .int .u32 0, .int .u32 0, .int .u32 0, .int .u32 2, .int .u32 1, .int .u32 4] 24).alloc (.cells #[.slice (some ⟨g1, 0, none⟩) 44 c1, .int .i64 44, .int .i64 0, .int .i64 0] 30))
  have b4 := hide (Bx.snd4 w3 (.cells #[.int .i64 3, .int .u32 0, .int .u32 0, .int .u32 0, .int .u32 2, .int .u32 1, .int .u32 4] 24) (.slice (some ⟨g1, 0, none⟩) 44 c1) (.int .i64 44) (.int .i64 0) (.int .i64 0) 30)
  replace hb := hide (bl_alloc (bl_alloc hb.out (.cells #[.int .i64 3, .int .u32 0, .int .u32 0, .int .u32 0, .int .u32 2, .int .u32 1, .int .u32 4] 24)) (.cells #[.slice (some ⟨g1, 0, none⟩) 44 c1, .int .i64 44, .int .i64 0, .int .i64 0] 30))
  replace hbx := hide ((hbx.out.alloc (.cells #[.int .i64 3, .int .u32 0, .int .u32 0, .int .u32 0, .int .u32 2, .int .u32 1, .int .u32 4] 24)).alloc (.cells #[.slice (some ⟨g1, 0, none⟩) 44 c1, .int .i64 44, .int .i64 0, .int .i64 0] 30))
  replace o1 := hide ((o1.out.alloc (.cells #[.int .i64 3, .int .u32 0, .int .u32 0, .int .u32 0, .int .u32 2, .int .u32 1, .int .u32 4] 24)).alloc (.cells #[.slice (some ⟨g1, 0, none⟩) 44 c1, .int .i64 44, .int .i64 0, .int .i64 0] 30))
  go_upto_region 6 with fail
  generalize ((w3.alloc (.cells #[.int .i64 3, .int .u32 0, .int .u32 0, .int .u32 0, .int .u32 2, .int .u32 1, .int .u32 4] 24)).alloc (.cells #[.slice (some ⟨g1, 0, none⟩) 44 c1, .int .i64 44, .int .i64 0, .int .i64 0] 30)) = w4 at *
  have r43 := hide (show Rd w4 (some ⟨g1, 0, none⟩) 43 (((encH hA_).take 43).map (Value.int .u8)) by have := o1.out.rd.take (k := 43) (by decide); rwa [← List.map_take] at this)
  go_wp2_with fail
  refine (cu_.New _ _ _ _).mono ?_
  rintro e w5 ⟨rfl, h1⟩
  replace hb := hide (bel_next hb.out h1)
  replace hbx := hide (hbx.out.below h1)
  replace o1 := hide (o1.out.below h1)
  replace b3 := hide (b3.out.below h1)
  replace b4 := hide (b4.out.below h1)
  replace r43 := hide (r43.out.below h1)
  clear h1
  go_wp2_with fail
  refine (D2.out _ _ _ (HT.out.below hb.out) r43.out (fun h => by cases h) (by omega) (by omega)).mono ?_
  rintro e w6 ⟨rfl, h1⟩
  replace hb := hide (bel_next hb.out h1)
  replace hbx := hide (hbx.out.below h1)
  replace o1 := hide (o1.out.below h1)
  replace b3 := hide (b3.out.below h1)
  replace b4 := hide (b4.out.below h1)
  replace r43 := hide (r43.out.below h1)
  clear h1
  have b5 := hide ((Bx.new w6 [.int .i64 0, .int .u32 0, .int .u32 0, .int .u32 0, .int .u32 0, .int .u32 0, .int .u32 0] 24).alloc (.cells #[.slice (some ⟨g1, 0, none⟩) 43 c1, .int .i64 q2, .int .i64 1, .int .i64 43] 30))
  have b6 := hide (Bx.snd4 w6 (.cells #[.int .i64 0, .int .u32 0, .int .u32 0, .int .u32 0, .int .u32 0, .int .u32 0, .int .u32 0] 24) (.slice (some ⟨g1, 0, none⟩) 43 c1) (.int .i64 q2) (.int .i64 1) (.int .i64 43) 30)
  replace hb := hide (bl_alloc (bl_alloc hb.out (.cells #[.int .i64 0, .int .u32 0, .int .u32 0, .int .u32 0, .int .u32 0, .int .u32 0, .int .u32 0] 24)) (.cells #[.slice (some ⟨g1, 0, none⟩) 43 c1, .int .i64 q2, .int .i64 1, .int .i64 43] 30))
  replace hbx := hide ((hbx.out.alloc (.cells #[.int .i64 0, .int .u32 0, .int .u32 0, .int .u32 0, .int .u32 0, .int .u32 0, .int .u32 0] 24)).alloc (.cells #[.slice (some ⟨g1, 0, none⟩) 43 c1, .int .i64 q2, .int .i64 1, .int .i64 43] 30))
  replace o1 := hide ((o1.out.alloc (.cells #[.int .i64 0, .int .u32 0, .int .u32 0, .int .u32 0, .int .u32 0, .int .u32 0, .int .u32 0] 24)).alloc (.cells #[.slice (some ⟨g1, 0, none⟩) 43 c1, .int .i64 q2, .int .i64 1, .int .i64 43] 30))
  replace b3 := hide ((b3.out.alloc (.cells #[.int .i64 0, .int .u32 0, .int .u32 0, .int .u32 0, .int .u32 0, .int .u32 0, .int .u32 0] 24)).alloc (.cells #[.slice (some ⟨g1, 0, none⟩) 43 c1, .int .i64 q2, .int .i64 1, .int .i64 43] 30))
  replace b4 := hide ((b4.out.alloc (.cells #[.int .i64 0, .int .u32 0, .int .u32 0, .int .u32 0, .int .u32 0, .int .u32 0, .int .u32 0] 24)).alloc (.cells #[.slice (some ⟨g1, 0, none⟩) 43 c1, .int .i64 q2, .int .i64 1, .int .i64 43] 30))
  replace r43 := hide ((r43.out.alloc (.cells #[.int .i64 0, .int .u32 0, .int .u32 0, .int .u32 0, .int .u32 0, .int .u32 0, .int .u32 0] 24)).alloc (.cells #[.slice (some ⟨g1, 0, none⟩) 43 c1, .int .i64 q2, .int .i64 1, .int .i64 43] 30))
  go_upto_region 7 with fail
  generalize ((w6.alloc (.cells #[.int .i64 0, .int .u32 0, .int .u32 0, .int .u32 0, .int .u32 0, .int .u32 0, .int .u32 0] 24)).alloc (.cells #[.slice (some ⟨g1, 0, none⟩) 43 c1, .int .i64 q2, .int .i64 1, .int .i64 43] 30)) = w7 at *
  clear r43
  have hbx7 := hide hbx.out.lt
  have b37 := hide b3.out.lt
  have b47 := hide b4.out.lt
  have b57 := hide b5.out.lt
  have b67 := hide b6.out.lt
  have o17 := hide (o1.out.lt g1 rfl).2
  have hb7 := hide hb.out.size
  have hoE := hide (ow_nil_ w7 5)
  have r1b := hide (o1.out.rd.alloc (.cells #[] 5))
  have hbE := hide (bl_alloc (Below.refl w7.heap.size w7) (.cells #[] 5))
  have O1 := hide (oneCells .u8 (encH hA_))
  go_upto_region 8 with (at_builtin; refine apA elU8_ hoE.out hbE.out (Nat.le_refl _) r1b.out (.tmp 31) (.tmp 32) rfl rfl rfl rfl (fun h => by cases h) O1.out (by simp [maxLen]) (by omega) ?_; intro A8 c8 w8 ho8 h1 _; rw [Nat.zero_add] at ho8 ⊢; rw [List.nil_append] at ho8; replace ho8 := hide ho8; replace h1 := hide h1)
  replace h1 := h1.out
  replace hb := hide (bel_next hb.out h1)
  replace hbx := hide (hbx.out.below h1)
  replace o1 := hide (o1.out.below h1)
  replace b3 := hide (b3.out.below h1)
  replace b4 := hide (b4.out.below h1)
  replace b5 := hide (b5.out.below h1)
  replace b6 := hide (b6.out.below h1)
  clear h1
  have oc8 := ho8.out.cap
  have om8 := ho8.out.capMax
  have oi8 : (44 : Int) ≤ c8 := by omega
  have om8' : (c8 : Int) ≤ 9223372036854775807 := by simp [maxLen] at om8; omega
  obtain ⟨g8, rfl, hg8, _⟩ := ho8.out.form (by omega)
  have hfr := ho8.out.frozen 4
  have hl : w8.cell? ⟨g8, 4, none⟩ = some (.int .u8 51) := ho8.out.cell 4 (by omega)
  have hset := ho8.out.set 4 (.int .u8 49)
  rw [← List.map_set] at hset
  replace hset := hide hset
  replace hb := hide (bl_set (o := 4) hb.out (Nat.le_trans hb7.out hg8) (.int .u8 49))
  replace hbx := hide (hbx.out.set_ne (g' := g8) 4 (by have := hbx7.out; omega) (.int .u8 49))
  replace b3 := hide (b3.out.set_ne (g' := g8) 4 (by have := b37.out; omega) (.int .u8 49))
  replace b4 := hide (b4.out.set_ne (g' := g8) 4 (by have := b47.out; omega) (.int .u8 49))
  replace b5 := hide (b5.out.set_ne (g' := g8) 4 (by have := b57.out; omega) (.int .u8 49))
  replace b6 := hide (b6.out.set_ne (g' := g8) 4 (by have := b67.out; omega) (.int .u8 49))
  replace o1 := hide (ow_out o1.out (g := g8) 4 (by have := o17.out; show some g8 ≠ some g1; intro h; injection h; omega) (.int .u8 49))
  go_upto_region 9 with fail
  clear hl hfr ho8 hoE r1b hbE hbx7 b37 b47 b57 b67 o17 hb7
  generalize (w8.setCell ⟨g8, 4, none⟩ (.int .u8 49)) = w9 at *
  have o8 := hset
  go_wp2_with fail
  refine (cu_.New _ _ _ _).mono ?_
  rintro e w10 ⟨rfl, h1⟩
  replace hb := hide (bel_next hb.out h1)
  replace hbx := hide (hbx.out.below h1)
  replace o1 := hide (o1.out.below h1)
  replace b3 := hide (b3.out.below h1)
  replace b4 := hide (b4.out.below h1)
  replace b5 := hide (b5.out.below h1)
  replace b6 := hide (b6.out.below h1)
  replace o8 := hide (o8.out.below h1)
  clear h1
  go_wp2_with fail
  refine (D3.out _ _ _ (HT.out.below hb.out) o8.out.rd (fun h => by cases h) (by omega) (by omega)).mono ?_
  rintro e w11 ⟨rfl, h1⟩
  replace hb := hide (bel_next hb.out h1)
  replace hbx := hide (hbx.out.below h1)
  replace o1 := hide (o1.out.below h1)
  replace b3 := hide (b3.out.below h1)
  replace b4 := hide (b4.out.below h1)
  replace b5 := hide (b5.out.below h1)
  replace b6 := hide (b6.out.below h1)
  replace o8 := hide (o8.out.below h1)
  clear h1
  have b7 := hide ((Bx.new w11 [.int .i64 0, .int .u32 0, .int .u32 0, .int .u32 0, .int .u32 0, .int .u32 0, .int .u32 0] 24).alloc (.cells #[.slice (some ⟨g8, 0, none⟩) 44 c8, .int .i64 4, .int .i64 4, .int .i64 4] 30))
  have b8 := hide (Bx.snd4 w11 (.cells #[.int .i64 0, .int .u32 0, .int .u32 0, .int .u32 0, .int .u32 0, .int .u32 0, .int .u32 0] 24) (.slice (some ⟨g8, 0, none⟩) 44 c8) (.int .i64 4) (.int .i64 4) (.int .i64 4) 30)
  replace hb := hide (bl_alloc (bl_alloc hb.out (.cells #[.int .i64 0, .int .u32 0, .int .u32 0, .int .u32 0, .int .u32 0, .int .u32 0, .int .u32 0] 24)) (.cells #[.slice (some ⟨g8, 0, none⟩) 44 c8, .int .i64 4, .int .i64 4, .int .i64 4] 30))
  replace hbx := hide ((hbx.out.alloc (.cells #[.int .i64 0, .int .u32 0, .int .u32 0, .int .u32 0, .int .u32 0, .int .u32 0, .int .u32 0] 24)).alloc (.cells #[.slice (some ⟨g8, 0, none⟩) 44 c8, .int .i64 4, .int .i64 4, .int .i64 4] 30))
  replace o1 := hide ((o1.out.alloc (.cells #[.int .i64 0, .int .u32 0, .int .u32 0, .int .u32 0, .int .u32 0, .int .u32 0, .int .u32 0] 24)).alloc (.cells #[.slice (some ⟨g8, 0, none⟩) 44 c8, .int .i64 4, .int .i64 4, .int .i64 4] 30))
  replace b3 := hide ((b3.out.alloc (.cells #[.int .i64 0, .int .u32 0, .int .u32 0, .int .u32 0, .int .u32 0, .int .u32 0, .int .u32 0] 24)).alloc (.cells #[.slice (some ⟨g8, 0, none⟩) 44 c8, .int .i64 4, .int .i64 4, .int .i64 4] 30))
  replace b4 := hide ((b4.out.alloc (.cells #[.int .i64 0, .int .u32 0, .int .u32 0, .int .u32 0, .int .u32 0, .int .u32 0, .int .u32 0] 24)).alloc (.cells #[.slice (some ⟨g8, 0, none⟩) 44 c8, .int .i64 4, .int .i64 4, .int .i64 4] 30))
  replace b5 := hide ((b5.out.alloc (.cells #[.int .i64 0, .int .u32 0, .int .u32 0, .int .u32 0, .int .u32 0, .int .u32 0, .int .u32 0] 24)).alloc (.cells #[.slice (some ⟨g8, 0, none⟩) 44 c8, .int .i64 4, .int .i64 4, .int .i64 4] 30))
  replace b6 := hide ((b6.out.alloc (.cells #[.int .i64 0, .int .u32 0, .int .u32 0, .int .u32 0, .int .u32 0, .int .u32 0, .int .u32 0] 24)).alloc (.cells #[.slice (some ⟨g8, 0, none⟩) 44 c8, .int .i64 4, .int .i64 4, .int .i64 4] 30))
  replace o8 := hide ((o8.out.alloc (.cells #[.int .i64 0, .int .u32 0, .int .u32 0, .int .u32 0, .int .u32 0, .int .u32 0, .int .u32 0] 24)).alloc (.cells #[.slice (some ⟨g8, 0, none⟩) 44 c8, .int .i64 4, .int .i64 4, .int .i64 4] 30))
  go_upto_region 10 with fail
  generalize ((w11.alloc (.cells #[.int .i64 0, .int .u32 0, .int .u32 0, .int .u32 0, .int .u32 0, .int .u32 0, .int .u32 0] 24)).alloc (.cells #[.slice (some ⟨g8, 0, none⟩) 44 c8, .int .i64 4, .int .i64 4, .int .i64 4] 30)) = w12 at *
  clear o8 b7 b5
  go_wp2_with fail
  refine (E2.out _ (HT.out.below hb.out)).mono ?_
  rintro e w13 ⟨A13, c13, rfl, o13, h1⟩
  have oc13 := o13.cap
  have om13 := o13.capMax
  have om13' : (c13 : Int) ≤ 9223372036854775807 := by simp [maxLen] at om13; omega
  obtain ⟨g13, rfl, hg13, _⟩ := o13.form (by omega)
  replace o13 := hide o13
  replace hb := hide (bel_next hb.out h1)
  replace hbx := hide (hbx.out.below h1)
  replace o1 := hide (o1.out.below h1)
  replace b3 := hide (b3.out.below h1)
  replace b4 := hide (b4.out.below h1)
  replace b6 := hide (b6.out.below h1)
  replace b8 := hide (b8.out.below h1)
  clear h1
  go_wp2_with fail
  refine (cu_.New _ _ _ _).mono ?_
  rintro e w14 ⟨rfl, h1⟩
  replace hb := hide (bel_next hb.out h1)
  replace hbx := hide (hbx.out.below h1)
  replace o1 := hide (o1.out.below h1)
  replace b3 := hide (b3.out.below h1)
  replace b4 := hide (b4.out.below h1)
  replace b6 := hide (b6.out.below h1)
  replace b8 := hide (b8.out.below h1)
  replace o13 := hide (o13.out.below h1)
  clear h1
  go_wp2_with fail
  refine (D4.out _ _ _ (HT.out.below hb.out) o13.out.rd (fun h => by cases h) (by omega) (by omega)).mono ?_
  rintro e w15 ⟨rfl, h1⟩
  replace hb := hide (bel_next hb.out h1)
  replace hbx := hide (hbx.out.below h1)
  replace o1 := hide (o1.out.below h1)
  replace b3 := hide (b3.out.below h1)
  replace b4 := hide (b4.out.below h1)
  replace b6 := hide (b6.out.below h1)
  replace b8 := hide (b8.out.below h1)
  replace o13 := hide (o13.out.below h1)
  clear h1
  clear o13
  replace hb := hide (bl_alloc (bl_alloc hb.out (.cells #[.int .i64 0, .int .u32 0, .int .u32 0, .int .u32 0, .int .u32 0, .int .u32 0, .int .u32 0] 24)) (.cells #[.slice (some ⟨g13, 0, none⟩) 44 c13, .int .i64 44, .int .i64 6, .int .i64 0] 30))
  replace hbx := hide ((hbx.out.alloc (.cells #[.int .i64 0, .int .u32 0, .int .u32 0, .int .u32 0, .int .u32 0, .int .u32 0, .int .u32 0] 24)).alloc (.cells #[.slice (some ⟨g13, 0, none⟩) 44 c13, .int .i64 44, .int .i64 6, .int .i64 0] 30))
  replace o1 := hide ((o1.out.alloc (.cells #[.int .i64 0, .int .u32 0, .int .u32 0, .int .u32 0, .int .u32 0, .int .u32 0, .int .u32 0] 24)).alloc (.cells #[.slice (some ⟨g13, 0, none⟩) 44 c13, .int .i64 44, .int .i64 6, .int .i64 0] 30))
  replace b3 := hide ((b3.out.alloc (.cells #[.int .i64 0, .int .u32 0, .int .u32 0, .int .u32 0, .int .u32 0, .int .u32 0, .int .u32 0] 24)).alloc (.cells #[.slice (some ⟨g13, 0, none⟩) 44 c13, .int .i64 44, .int .i64 6, .int .i64 0] 30))
  replace b4 := hide ((b4.out.alloc (.cells #[.int .i64 0, .int .u32 0, .int .u32 0, .int .u32 0, .int .u32 0, .int .u32 0, .int .u32 0] 24)).alloc (.cells #[.slice (some ⟨g13, 0, none⟩) 44 c13, .int .i64 44, .int .i64 6, .int .i64 0] 30))
  replace b6 := hide ((b6.out.alloc (.cells #[.int .i64 0, .int .u32 0, .int .u32 0, .int .u32 0, .int .u32 0, .int .u32 0, .int .u32 0] 24)).alloc (.cells #[.slice (some ⟨g13, 0, none⟩) 44 c13, .int .i64 44, .int .i64 6, .int .i64 0] 30))
  replace b8 := hide ((b8.out.alloc (.cells #[.int .i64 0, .int .u32 0, .int .u32 0, .int .u32 0, .int .u32 0, .int .u32 0, .int .u32 0] 24)).alloc (.cells #[.slice (some ⟨g13, 0, none⟩) 44 c13, .int .i64 44, .int .i64 6, .int .i64 0] 30))
  have x1 := cells7 hbx.out
  have x3 := cells7 b3.out
  have x4 := b4.out.cells4
  have x6 := b6.out.cells4
  have x8 := b8.out.cells4
  have z4 : ((w15.alloc (.cells #[.int .i64 0, .int .u32 0, .int .u32 0, .int .u32 0, .int .u32 0, .int .u32 0, .int .u32 0] 24)).alloc (.cells #[.slice (some ⟨g13, 0, none⟩) 44 c13, .int .i64 44, .int .i64 6, .int .i64 0] 30)).cell? ⟨g1, 4, none⟩ = some (.int .u8 51) := o1.out.cell 4 (by omega)
  have z35 : ((w15.alloc (.cells #[.int .i64 0, .int .u32 0, .int .u32 0, .int .u32 0, .int .u32 0, .int .u32 0, .int .u32 0] 24)).alloc (.cells #[.slice (some ⟨g13, 0, none⟩) 44 c13, .int .i64 44, .int .i64 6, .int .i64 0] 30)).cell? ⟨g1, 35, none⟩ = some (.int .u8 2) := o1.out.cell 35 (by omega)
  have z43 : ((w15.alloc (.cells #[.int .i64 0, .int .u32 0, .int .u32 0, .int .u32 0, .int .u32 0, .int .u32 0, .int .u32 0] 24)).alloc (.cells #[.slice (some ⟨g13, 0, none⟩) 44 c13, .int .i64 44, .int .i64 6, .int .i64 0] 30)).cell? ⟨g1, 43, none⟩ = some (.int .u8 4) := o1.out.cell 43 (by omega)
  clear hbx b3 b4 b6 b8 o1
  go_wp2_with (first
    | (go_at_call 11; with_reducible refine (K1.out _ (HT.out.below hb.out)).mono ?_; rintro e w16 ⟨rfl, h1⟩; replace hb := hide (bel_next hb.out h1); clear h1)
    | (go_at_call 11; with_reducible refine (K2.out _ (HT.out.below hb.out)).mono ?_; rintro e w16 ⟨rfl, h1⟩; replace hb := hide (bel_next hb.out h1); clear h1))
  go_ret
  exact ⟨rfl, hb.out⟩
end l13_
end Go.Proofs.YtakimiiggemfiaaDoor

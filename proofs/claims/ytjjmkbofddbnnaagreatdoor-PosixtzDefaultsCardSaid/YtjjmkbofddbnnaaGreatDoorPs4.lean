/-
  CONTRACTS OF posixtz.Day and of its steps, of the code that landed at 120e3cd. Condition: a text of at most 1,000,000 bytes.
-/
import Derived.Test.YtjjmkbofddbnnaaGreatDoorPs3
import Derived.Test.YtjjmkbofddbnnaaGreatDoorPr
import Derived.Deep.RegionHeld3
import Derived.Deep.DeepCutAuto
namespace Go.Proofs.YtjjmkbofddbnnaaGreatDoor
open Go.ChangeShapes Go.WideShapes Go.ChangeAt Go.RowKit
set_option linter.unusedVariables false
set_option maxRecDepth 100000
theorem gr_rdc (d : RD) : Gr Tryz.prog 23 6 (rdc d) := ⟨by rw [show (rdc d).size = 6 from rfl]; kernel_rfl, rfl, by simp [rdc, Value.oneCell']⟩
/-- three results, the first a struct in a box. -/
theorem results_c12 {P : Program} {fn : Func} {a t b c : Nat} (hr : fn.results = #[.cell a t, .tmp b, .tmp c]) {tmps : Array Value} {p : Addr} {w : World} {v x y : Value} (hp : tmps.getD a undef = .pointer (some p)) (hx : tmps.getD b undef = x) (hy : tmps.getD c undef = y)
    (h : (loadVar t p).run P w = .ok v w) : (results fn tmps).run P w = .ok (.tuple #[v, x, y]) w := by
  simp only [Array.getD_eq_getD_getElem?] at hp hx hy
  simp [results, hr, hp, hx, hy, asAddr, h]
theorem But2.row {b g q : Nat} {w w1 : World} (h : But2 b g w w1) (hq : q = b ∨ q = g ∨ w.heap.size ≤ q) (cs : Array Value) : But2 b g w (w1.setRow q cs) :=
  ⟨h.os, h.tape, h.output, by rw [size_setRow]; exact h.size, fun k hk hn hm => by rw [setRow_other w1 q k cs (by omega)]; exact h.block k hk hn hm⟩
namespace po_
theorem day1_yes (s : ByteArray) (d : RD) (n b g p : Nat) (w : World) (hs : s.size ≤ 1000000) (hp : Pz w b s ((0 : Nat) : Int)) (hv : Bx w p [.pointer (some ⟨b, 0, none⟩)]) (hg : Ro w g (rdc rd0) 23) (h1 : b ≠ g) (h2 : p ≠ b) (h3 : p ≠ g) (hd : ptDay (byt s) = some (d, n)) :
    Calls Tryz.prog 22 #[.pointer (some ⟨p, 0, none⟩), .pointer (some ⟨g, 0, none⟩)] w fun e w' => e = .returned (.tuple #[]) ∧ (Pz w' b s (n : Int) ∧ Ro w' g (rdc d) 23) ∧ But2 b g w w' := by
  have D := hide (fun w hp => dat_ s 0 b w hs (by omega) hp)
  simp only [rst, List.drop_zero, hd, Nat.zero_add] at D
  have G := gr_rdc d
  have P := hide hp
  have hD := hide hg
  have c0 := hv.2.1 0 _ rfl
  have e0 : (rdc rd0).size = (rdc d).size := rfl
  generalize rdc d = cs at *
  generalize rdc rd0 = z at *
  clear hp hg hv hd
  go_enter Tryz.func22, Tryz.ntmps22
  go_wp2_with fail
  refine (D.out _ P.out).mono ?_
  rintro e w1 ⟨rfl, p1, hb⟩
  replace hD := hide (hD.out.but hb (by omega))
  replace P := hide p1
  clear p1 c0
  go_wp2_with (refine wpList_store_row rfl 23 _ _ rfl _ _ rfl rfl _ _ hD.out G.1 e0 G.2.2 ?_)
  go_end0
  exact ⟨rfl, ⟨P.out.row (by omega) _, ro_row hD.out _⟩, (But2.one hb).row (.inr (.inl rfl)) _⟩
theorem day1_no (s : ByteArray) (b g p : Nat) (w : World) (hs : s.size ≤ 1000000) (hp : Pz w b s ((0 : Nat) : Int)) (hv : Bx w p [.pointer (some ⟨b, 0, none⟩)]) (hd : ptDay (byt s) = none) :
    Calls Tryz.prog 22 #[.pointer (some ⟨p, 0, none⟩), .pointer (some ⟨g, 0, none⟩)] w fun e w' => (∃ q : Int, e = fail q) ∧ But2 b g w w' := by
  have D := hide (fun w hp => dat_ s 0 b w hs (by omega) hp)
  simp only [rst, List.drop_zero, hd] at D
  have P := hide hp
  have c0 := hv.2.1 0 _ rfl
  clear hp hv hd
  go_enter Tryz.func22, Tryz.ntmps22
  go_wp2_with fail
  refine (D.out _ P.out).mono ?_
  rintro e w1 ⟨q, rfl, hb⟩
  unfold fail
  go_wp2
  exact ⟨rfl, ⟨_, rfl⟩, But2.one hb⟩
theorem laid4 (w : World) (Z : Array Value) (T U V : TypeId) (s : ByteArray) (W : World) (hW : W = (((w.alloc (.cells Z T)).alloc (.cells #[.string s, .int .i64 0] U)).alloc (.cells #[.pointer (some ⟨w.heap.size + 1, 0, none⟩)] V)).alloc (.cells Z T)) :
    Below w.heap.size w W ∧ Pz W (w.heap.size + 1) s ((0 : Nat) : Int) ∧ Bx W (w.heap.size + 1 + 1) [.pointer (some ⟨w.heap.size + 1, 0, none⟩)] ∧ Ro W (w.heap.size + 1 + 1 + 1) Z T ∧ Ro W w.heap.size Z T ∧ W.heap.size = w.heap.size + 4 := by
  subst hW
  have s1 : (w.alloc (.cells Z T)).heap.size = w.heap.size + 1 := by simp
  have s2 : ((w.alloc (.cells Z T)).alloc (.cells #[.string s, .int .i64 0] U)).heap.size = w.heap.size + 1 + 1 := by simp
  have s3 : (((w.alloc (.cells Z T)).alloc (.cells #[.string s, .int .i64 0] U)).alloc (.cells #[.pointer (some ⟨w.heap.size + 1, 0, none⟩)] V)).heap.size = w.heap.size + 1 + 1 + 1 := by simp
  have r0 := Ro.new w Z T
  have b0 := bl_new w (.cells Z T)
  generalize w.alloc (.cells Z T) = w1 at *
  have r1 : Pz (w1.alloc (.cells #[.string s, .int .i64 0] U)) (w.heap.size + 1) s ((0 : Nat) : Int) := by have := Bx.new w1 [.string s, .int .i64 0] U; rwa [s1] at this
  replace r0 := r0.alloc (.cells #[.string s, .int .i64 0] U)
  replace b0 := bl_alloc b0 (.cells #[.string s, .int .i64 0] U)
  generalize w1.alloc (.cells #[.string s, .int .i64 0] U) = w2 at *
  have r2 : Bx (w2.alloc (.cells #[.pointer (some ⟨w.heap.size + 1, 0, none⟩)] V)) (w.heap.size + 1 + 1) [.pointer (some ⟨w.heap.size + 1, 0, none⟩)] := by have := Bx.new w2 [.pointer (some ⟨w.heap.size + 1, 0, none⟩)] V; rwa [s2] at this
  replace r0 := r0.alloc (.cells #[.pointer (some ⟨w.heap.size + 1, 0, none⟩)] V)
  replace r1 := r1.below (bl_new w2 (.cells #[.pointer (some ⟨w.heap.size + 1, 0, none⟩)] V))
  replace b0 := bl_alloc b0 (.cells #[.pointer (some ⟨w.heap.size + 1, 0, none⟩)] V)
  generalize w2.alloc (.cells #[.pointer (some ⟨w.heap.size + 1, 0, none⟩)] V) = w3 at *
  have r3 : Ro (w3.alloc (.cells Z T)) (w.heap.size + 1 + 1 + 1) Z T := by have := Ro.new w3 Z T; rwa [s3] at this
  exact ⟨bl_alloc b0 _, r1.below (bl_new _ _), r2.alloc _, r3, r0.alloc _, by simp; omega⟩
theorem stable {b g : Nat} {s : ByteArray} {n : Int} {cs : Array Value} {T : TypeId} {B : Nat} (hb : b < B) (hg : g < B) (w2 : World) (q o : Nat) (v : Value) (hq : B ≤ q) (h : Pz w2 b s n ∧ Ro w2 g cs T) : Pz (w2.setCell ⟨q, o, none⟩ v) b s n ∧ Ro (w2.setCell ⟨q, o, none⟩ v) g cs T :=
  ⟨h.1.set_ne o (by omega) v, ro_set_ne h.2 (by omega) o v⟩
set_option maxHeartbeats 2000000 in
theorem Day_no (s : ByteArray) (w : World) (hs : s.size ≤ 1000000) (hd : ptDay (byt s) = none) : Calls Tryz.prog 13 #[.string s] w fun e w' => e = .returned (.tuple #[vday rd0, .int .i64 0, .bool false]) ∧ Below w.heap.size w w' := by
  have hmf : ∀ (fn : Fn) (first cap : Array Value) (w : World), (Instr.makeFunc fn first cap).run Tryz.prog w = .ok (.func fn first cap) w := fun _ _ _ _ => rfl
  obtain ⟨W, hW⟩ : ∃ W, W = (((w.alloc (.cells (rdc rd0) 23)).alloc (.cells #[.string s, .int .i64 0] 44)).alloc (.cells #[.pointer (some ⟨w.heap.size + 1, 0, none⟩)] 42)).alloc (.cells (rdc rd0) 23) := ⟨_, rfl⟩
  obtain ⟨h1, h2, h3, h4, h5, h6⟩ := laid4 w _ _ _ _ s W hW
  have A := attempt_no 22 (w.heap.size + 1) (w.heap.size + 1 + 1 + 1) #[.pointer (some ⟨w.heap.size + 1 + 1, 0, none⟩), .pointer (some ⟨w.heap.size + 1 + 1 + 1, 0, none⟩)] W (enters Tryz.func22 (by kernel_rfl) (by kernel_rfl))
    (fun w1 hb => day1_no s _ _ _ w1 hs (h2.below hb) (h3.below hb) hd) (by omega) (by omega)
  have G := gr_rdc rd0
  replace A := hide A
  replace h5 := hide h5
  clear h2 h3 h4 hd
  simp only [rdc, rd0] at hW
  go_enter Tryz.func13, Tryz.ntmps13
  go_wp2_with fail
  rw [← hW]
  refine A.out.mono ?_
  rintro e w1 ⟨⟨q, rfl⟩, hb⟩
  have hR := hide (h5.out.but2 hb (by omega) (by omega))
  have hB := hide (h1.trans (hb.below (B := w.heap.size) (by omega) (by omega) (by omega)))
  clear h5 hb h1 A hW h6
  go_wp2_with (refine wpList_store_row rfl 23 _ _ rfl _ _ rfl rfl _ _ hR.out G.1 rfl G.2.2 ?_)
  have hl := ((ro_row hR.out (rdc rd0)).load 23 _ Tryz.underlying23 rfl G.1).2
  exact bodyPost_ret (results_c12 Tryz.results13 rfl rfl rfl hl) rfl ⟨rfl, bl_row hB.out (Nat.le_refl _) _⟩
set_option maxHeartbeats 2000000 in
theorem Day_yes (s : ByteArray) (d : RD) (n : Nat) (w : World) (hs : s.size ≤ 1000000) (hd : ptDay (byt s) = some (d, n)) : Calls Tryz.prog 13 #[.string s] w fun e w' => e = .returned (.tuple #[vday d, .int .i64 n, .bool true]) ∧ Below w.heap.size w w' := by
  have hmf : ∀ (fn : Fn) (first cap : Array Value) (w : World), (Instr.makeFunc fn first cap).run Tryz.prog w = .ok (.func fn first cap) w := fun _ _ _ _ => rfl
  obtain ⟨W, hW⟩ : ∃ W, W = (((w.alloc (.cells (rdc rd0) 23)).alloc (.cells #[.string s, .int .i64 0] 44)).alloc (.cells #[.pointer (some ⟨w.heap.size + 1, 0, none⟩)] 42)).alloc (.cells (rdc rd0) 23) := ⟨_, rfl⟩
  obtain ⟨h1, h2, h3, h4, h5, h6⟩ := laid4 w _ _ _ _ s W hW
  have A := attempt_yes 22 (w.heap.size + 1) (w.heap.size + 1 + 1 + 1) #[.pointer (some ⟨w.heap.size + 1 + 1, 0, none⟩), .pointer (some ⟨w.heap.size + 1 + 1 + 1, 0, none⟩)] (fun w' => Pz w' (w.heap.size + 1) s (n : Int) ∧ Ro w' (w.heap.size + 1 + 1 + 1) (rdc d) 23) W (enters Tryz.func22 (by kernel_rfl) (by kernel_rfl))
    (fun w1 hb => day1_yes s d n _ _ _ w1 hs (h2.below hb) (h3.below hb) (h4.below hb) (by omega) (by omega) (by omega) hd) (fun w2 q o v hq h => stable (by omega) (by omega) w2 q o v hq h) (by omega) (by omega)
  have G := gr_rdc d
  replace A := hide A
  replace h5 := hide h5
  clear h2 h4 hd
  simp only [rdc, rd0] at hW
  go_enter Tryz.func13, Tryz.ntmps13
  go_wp2_with fail
  rw [← hW]
  refine A.out.mono ?_
  rintro e w1 ⟨rfl, ⟨hP, hD⟩, hb⟩
  have hR := hide (h5.out.but2 hb (by omega) (by omega))
  have hB := hide (h1.trans (hb.below (B := w.heap.size) (by omega) (by omega) (by omega)))
  have hV := h3.but2 hb (by omega) (by omega)
  have c0 := hV.2.1 0 _ rfl
  have c1 := hP.2.1 1 _ rfl
  obtain ⟨a, c, m, k, x, v⟩ := d
  have g0 := (ro_cf hD 0 (.int .i64 a) rfl).1
  have g1 := (ro_cf hD 1 (.int .i64 c) rfl).1
  have g2 := (ro_cf hD 2 (.int .i64 m) rfl).1
  have g3 := (ro_cf hD 3 (.int .i64 k) rfl).1
  have g4 := (ro_cf hD 4 (.int .i64 x) rfl).1
  have g5 := (ro_cf hD 5 (.int .i64 v) rfl).1
  obtain ⟨r0, f0⟩ := ro_cf hR.out 0 (.int .i64 0) rfl
  obtain ⟨r1, f1⟩ := ro_cf hR.out 1 (.int .i64 0) rfl
  obtain ⟨r2, f2⟩ := ro_cf hR.out 2 (.int .i64 0) rfl
  obtain ⟨r3, f3⟩ := ro_cf hR.out 3 (.int .i64 0) rfl
  obtain ⟨r4, f4⟩ := ro_cf hR.out 4 (.int .i64 0) rfl
  obtain ⟨r5, f5⟩ := ro_cf hR.out 5 (.int .i64 0) rfl
  clear h3 h5 hb h1 A hW h6 hP hD hV
  go_upto_region 6 with fail
  have hF : Ro _ w.heap.size (rdc (a, c, m, k, x, v)) 23 := (ro_set (ro_set (ro_set (ro_set (ro_set (ro_set (hR.out) 0 (.int .i64 a)) 1 (.int .i64 c)) 2 (.int .i64 m)) 3 (.int .i64 k)) 4 (.int .i64 x)) 5 (.int .i64 v)).drew
  have hl := (hF.load 23 _ Tryz.underlying23 rfl G.1).2
  have hX := bl_drew (bl_set (o := 5) (bl_set (o := 4) (bl_set (o := 3) (bl_set (o := 2) (bl_set (o := 1) (bl_set (o := 0) (hB.out) (Nat.le_refl _) (.int .i64 a)) (Nat.le_refl _) (.int .i64 c)) (Nat.le_refl _) (.int .i64 m)) (Nat.le_refl _) (.int .i64 k)) (Nat.le_refl _) (.int .i64 x)) (Nat.le_refl _) (.int .i64 v))
  go_region
  go_wp2
  exact bodyPost_ret (results_c12 Tryz.results13 rfl rfl rfl hl) rfl ⟨rfl, hX⟩
end po_
end Go.Proofs.YtjjmkbofddbnnaaGreatDoor

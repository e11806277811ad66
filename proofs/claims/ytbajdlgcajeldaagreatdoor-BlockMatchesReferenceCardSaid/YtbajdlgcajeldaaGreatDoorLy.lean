/-
  CONTRACTS OF PACKAGE layout, of the code that landed at 42776cb. Conditions: counts of 32 bits, a time size of 4 or 8.
-/
import Derived.Test.YtbajdlgcajeldaaGreatDoorRef14
import Derived.Test.YtbajdlgcajeldaaGreatDoorSz
namespace Go.Proofs.YtbajdlgcajeldaaGreatDoor
open Go.ChangeShapes Go.WideShapes Go.ChangeAt Go.RowKit
set_option linter.unusedVariables false
set_option maxRecDepth 100000
namespace ly_
/-- the numbers of records, section by section, and the length of one record. -/
def cntL (a b c d x y : Int) : List Int := [d, d, x, y, c, b, a]
def widL (s : Int) : List Int := [s, 1, 6, 1, s + 4, 1, 1]
theorem mul_at {a b c d x y s : Int} (h : LyC a b c d x y s) (k : Nat) (hk : k < 7) : ∃ p q t : Int, (cntL a b c d x y)[k]? = some p ∧ (widL s)[k]? = some q ∧ (lenL a b c d x y s)[k]? = some t ∧ p * q = t ∧ 0 ≤ t ∧ t ≤ 51539607552 := by
  have H := len_bd h
  have go : ∀ p q t : Int, (cntL a b c d x y)[k]? = some p → (widL s)[k]? = some q → (lenL a b c d x y s)[k]? = some t → p * q = t → ∃ p q t : Int, (cntL a b c d x y)[k]? = some p ∧ (widL s)[k]? = some q ∧ (lenL a b c d x y s)[k]? = some t ∧ p * q = t ∧ 0 ≤ t ∧ t ≤ 51539607552 :=
    fun p q t h1 h2 h3 h4 => ⟨p, q, t, h1, h2, h3, h4, H t (List.mem_of_getElem? h3)⟩
  match k, hk with
  | 0, _ => exact go _ _ _ rfl rfl rfl rfl
  | 1, _ => exact go _ _ _ rfl rfl rfl (Int.mul_one _)
  | 2, _ => exact go _ _ _ rfl rfl rfl (Int.mul_comm _ _)
  | 3, _ => exact go _ _ _ rfl rfl rfl (Int.mul_one _)
  | 4, _ => exact go _ _ _ rfl rfl rfl rfl
  | 5, _ => exact go _ _ _ rfl rfl rfl (Int.mul_one _)
  | 6, _ => exact go _ _ _ rfl rfl rfl (Int.mul_one _)
/-- the row of counts while it is turned to lengths: done before k. -/
def rowL (cs ls : List Int) (k : Nat) : List Int := (List.range 7).map fun j => if j < k then ls[j]?.getD 0 else cs[j]?.getD 0
theorem rowL_at (cs ls : List Int) {k : Nat} (hk : k < 7) : (rowL cs ls k)[k]? = some (cs[k]?.getD 0) := by
  unfold rowL
  rw [List.getElem?_map, List.getElem?_range hk]
  simp
theorem rowL_len (cs ls : List Int) (k : Nat) : (rowL cs ls k).length = 7 := by simp [rowL]
theorem rowL_set (cs ls : List Int) {k : Nat} (hk : k < 7) : (rowL cs ls k).set k (ls[k]?.getD 0) = rowL cs ls (k + 1) := by
  apply List.ext_getElem?
  intro j
  by_cases hj : j = k
  · subst hj
    rw [List.getElem?_set_self (by rw [rowL_len]; exact hk)]
    unfold rowL
    rw [List.getElem?_map, List.getElem?_range hk]
    simp
  · rw [List.getElem?_set_ne (fun h => hj h.symm)]
    unfold rowL
    rw [List.getElem?_map, List.getElem?_map]
    by_cases h7 : j < 7
    · rw [List.getElem?_range h7]
      by_cases hjk : j < k
      · simp [hjk, show j < k + 1 by omega]
      · simp [hjk, show ¬ j < k + 1 by omega]
    · rw [List.getElem?_eq_none (by simp; omega)]
      rfl
theorem rd_bx {w : World} {g : Nat} {xs : List Value} (h : Bx w g xs) : Rd w (some ⟨g, 0, none⟩) xs.length xs :=
  ⟨rfl, fun _ => ⟨_, rfl, fun i v hi => by rw [addr_flat, Nat.zero_add]; exact h.2.1 i v hi⟩⟩
@[reducible] def cntV (a b c d x y : Int) : Value := .agg #[.int .u64 d, .int .u64 d, .int .u64 x, .int .u64 y, .int .u64 c, .int .u64 b, .int .u64 a]
@[reducible] def widV (s : Int) : Value := .agg #[.int .u64 s, .int .u64 1, .int .u64 6, .int .u64 1, .int .u64 (s + 4), .int .u64 1, .int .u64 1]
theorem counts (v a b c d x y s : Int) (w : World) (h : LyC a b c d x y s) : Calls Tryz.prog 70 #[hdV v a b c d x y] w fun e w' => e = .returned (cntV a b c d x y) ∧ Below w.heap.size w w' := by
  obtain ⟨⟨a0, a1⟩, ⟨b0, b1⟩, ⟨c0, c1⟩, ⟨d0, d1⟩, ⟨x0, x1⟩, ⟨y0, y1⟩, hs⟩ := h
  clear hs
  have hb := hide (bl_refl w)
  go_enter Tryz.func70, Tryz.ntmps70
  go_wp2
  exact bodyPost_ret (v := cntV a b c d x y) (by simp [results, Tryz.results70, go_sem]) rfl ⟨rfl, bl_alloc (bl_new _ _) _⟩
theorem widths (s : Int) (w : World) (hs : s = 4 ∨ s = 8) : Calls Tryz.prog 71 #[.int .i64 s] w fun e w' => e = .returned (widV s) ∧ Below w.heap.size w w' := by
  have hb := hide (bl_refl w)
  rcases hs with rfl | rfl
  · go_enter Tryz.func71, Tryz.ntmps71
    go_wp2
    exact bodyPost_ret (v := widV 4) (by simp [results, Tryz.results71, go_sem]) rfl ⟨rfl, bl_new _ _⟩
  · go_enter Tryz.func71, Tryz.ntmps71
    go_wp2
    exact bodyPost_ret (v := widV 8) (by simp [results, Tryz.results71, go_sem]) rfl ⟨rfl, bl_new _ _⟩
theorem Lengths (v a b c d x y s : Int) (w : World) (h : LyC a b c d x y s) : Calls Tryz.prog 55 #[hdV v a b c d x y, .int .i64 s] w fun e w' => e = .returned (lenV a b c d x y s) ∧ Below w.heap.size w w' := by
  have C := hide (fun w => counts v a b c d x y s w h)
  have W := hide (fun w => widths s w h.s)
  have hM := hide (mul_at h)
  have hc := hide (show (rowL (cntL a b c d x y) (lenL a b c d x y s) 0).map (Value.int .u64) = [.int .u64 d, .int .u64 d, .int .u64 x, .int .u64 y, .int .u64 c, .int .u64 b, .int .u64 a] from rfl)
  have hl := hide (show (rowL (cntL a b c d x y) (lenL a b c d x y s) 7).map (Value.int .u64) = [.int .u64 (d * s), .int .u64 d, .int .u64 (6 * x), .int .u64 y, .int .u64 (c * (s + 4)), .int .u64 b, .int .u64 a] from rfl)
  have hw := hide (show (widL s).map (Value.int .u64) = [.int .u64 s, .int .u64 1, .int .u64 6, .int .u64 1, .int .u64 (s + 4), .int .u64 1, .int .u64 1] from rfl)
  clear h
  generalize lenL a b c d x y s = ls at *
  generalize cntL a b c d x y = cs at *
  generalize widL s = ws at *
  have hb := hide (bl_new w (.cells #[.int .i64 v, .int .u32 a, .int .u32 b, .int .u32 c, .int .u32 d, .int .u32 x, .int .u32 y] 28))
  go_enter Tryz.func55, Tryz.ntmps55
  have b4 := hide (show Bx ((w.alloc (.cells #[.int .i64 v, .int .u32 a, .int .u32 b, .int .u32 c, .int .u32 d, .int .u32 x, .int .u32 y] 28)).alloc (.cells #[.int .u64 0, .int .u64 0, .int .u64 0, .int .u64 0, .int .u64 0, .int .u64 0, .int .u64 0] 62)) (w.heap.size + 1) [.int .u64 0, .int .u64 0, .int .u64 0, .int .u64 0, .int .u64 0, .int .u64 0, .int .u64 0] from r14_.bx_snd _ _ _ _)
  have bh := hide ((Bx.new w [.int .i64 v, .int .u32 a, .int .u32 b, .int .u32 c, .int .u32 d, .int .u32 x, .int .u32 y] 28).alloc (.cells #[.int .u64 0, .int .u64 0, .int .u64 0, .int .u64 0, .int .u64 0, .int .u64 0, .int .u64 0] 62))
  replace hb := hide (bl_alloc hb.out (.cells #[.int .u64 0, .int .u64 0, .int .u64 0, .int .u64 0, .int .u64 0, .int .u64 0, .int .u64 0] 62))
  go_upto_region 1 with fail
  generalize ((w.alloc (.cells #[.int .i64 v, .int .u32 a, .int .u32 b, .int .u32 c, .int .u32 d, .int .u32 x, .int .u32 y] 28)).alloc (.cells #[.int .u64 0, .int .u64 0, .int .u64 0, .int .u64 0, .int .u64 0, .int .u64 0, .int .u64 0] 62)) = w0 at *
  have h7 := r14_.cells7' bh.out
  go_wp2_with fail
  refine (C.out _).mono ?_
  rintro e w1 ⟨rfl, h1⟩
  replace hb := hide (bel_next hb.out h1)
  replace b4 := hide (b4.out.below h1)
  clear h1 h7 bh
  go_wp2_with fail
  refine (W.out _).mono ?_
  rintro e w2 ⟨rfl, h1⟩
  replace hb := hide (bel_next hb.out h1)
  replace b4 := hide (b4.out.below h1)
  clear h1
  have b5 : Hid (Bx ((w2.alloc (.cells #[.int .u64 d, .int .u64 d, .int .u64 x, .int .u64 y, .int .u64 c, .int .u64 b, .int .u64 a] 62)).alloc (.cells #[.int .u64 s, .int .u64 1, .int .u64 6, .int .u64 1, .int .u64 (s + 4), .int .u64 1, .int .u64 1] 62)) w2.heap.size ((rowL cs ls 0).map (Value.int .u64))) := hide (by rw [hc.out]; exact (Bx.new w2 [.int .u64 d, .int .u64 d, .int .u64 x, .int .u64 y, .int .u64 c, .int .u64 b, .int .u64 a] 62).alloc (.cells #[.int .u64 s, .int .u64 1, .int .u64 6, .int .u64 1, .int .u64 (s + 4), .int .u64 1, .int .u64 1] 62))
  have b6 : Hid (Bx ((w2.alloc (.cells #[.int .u64 d, .int .u64 d, .int .u64 x, .int .u64 y, .int .u64 c, .int .u64 b, .int .u64 a] 62)).alloc (.cells #[.int .u64 s, .int .u64 1, .int .u64 6, .int .u64 1, .int .u64 (s + 4), .int .u64 1, .int .u64 1] 62)) (w2.heap.size + 1) (ws.map (Value.int .u64))) := hide (by rw [hw.out]; exact r14_.bx_snd w2 (.cells #[.int .u64 d, .int .u64 d, .int .u64 x, .int .u64 y, .int .u64 c, .int .u64 b, .int .u64 a] 62) [.int .u64 s, .int .u64 1, .int .u64 6, .int .u64 1, .int .u64 (s + 4), .int .u64 1, .int .u64 1] 62)
  have g4 := b4.out.lt
  have g0 := hide hb.out.size
  replace b4 := hide ((b4.out.alloc (.cells #[.int .u64 d, .int .u64 d, .int .u64 x, .int .u64 y, .int .u64 c, .int .u64 b, .int .u64 a] 62)).alloc (.cells #[.int .u64 s, .int .u64 1, .int .u64 6, .int .u64 1, .int .u64 (s + 4), .int .u64 1, .int .u64 1] 62))
  replace hb := hide (bl_alloc (bl_alloc hb.out (.cells #[.int .u64 d, .int .u64 d, .int .u64 x, .int .u64 y, .int .u64 c, .int .u64 b, .int .u64 a] 62)) (.cells #[.int .u64 s, .int .u64 1, .int .u64 6, .int .u64 1, .int .u64 (s + 4), .int .u64 1, .int .u64 1] 62))
  go_upto_region 2 with fail
  generalize ((w2.alloc (.cells #[.int .u64 d, .int .u64 d, .int .u64 x, .int .u64 y, .int .u64 c, .int .u64 b, .int .u64 a] 62)).alloc (.cells #[.int .u64 s, .int .u64 1, .int .u64 6, .int .u64 1, .int .u64 (s + 4), .int .u64 1, .int .u64 1] 62)) = w3 at *
  obtain ⟨g, hg⟩ : ∃ g, g = w2.heap.size := ⟨_, rfl⟩
  rw [← hg] at b5 b6 g4 g0 ⊢
  have G := hide hg
  clear hg
  go_wp2
  go_loopw [12] (fun iv wr => ∃ k : Nat, k ≤ 7 ∧ iv = .int .i64 k ∧ Bx wr g ((rowL cs ls k).map (Value.int .u64)) ∧ Bx wr (g + 1) (ws.map (Value.int .u64)) ∧ Bx wr (w.heap.size + 1) [.int .u64 0, .int .u64 0, .int .u64 0, .int .u64 0, .int .u64 0, .int .u64 0, .int .u64 0] ∧ Below w.heap.size w wr) (fun iv _ => 7 - (intOf iv).toNat)
  case atStart => exact ⟨0, by omega, rfl, b5.out, b6.out, b4.out, hb.out⟩
  case round =>
    clear b4 b5 b6 hb
    obtain ⟨k, hk, rfl, b5, b6, b4, hb⟩ := hrel
    rcases Nat.lt_or_ge k 7 with hlt | hge
    · obtain ⟨p, q, t, hp, hq, ht, e1, t0, t1⟩ := hM.out k hlt
      have hc5 := r14_.cell_l b5 (rowL_at cs ls hlt)
      rw [hp] at hc5
      simp only [Option.getD_some] at hc5
      have hc6 := r14_.cell_l b6 hq
      have hfr := b5.fr k
      have hset := b5.set k (.int .u64 t) (by rw [List.length_map, rowL_len]; exact hlt)
      have hr := rowL_set cs ls hlt
      rw [ht] at hr
      simp only [Option.getD_some] at hr
      rw [← List.map_set, hr] at hset
      have b4s := hide (b4.set_ne (g' := g) k (by omega) (.int .u64 t))
      have b6s := hide (b6.set_ne (g' := g) k (by omega) (.int .u64 t))
      have hbs := hide (bl_set (g := g) (o := k) hb (by have := g0.out; omega) (.int .u64 t))
      replace hset := hide hset
      clear b4 b5 b6 hb hp hq ht hr
      have w64 : IntKind.u64.wrap (p * q) = t := by rw [IntKind.wrap_u64, e1]; omega
      replace e1 := hide e1
      go_wp2_with fail
      go_region
      go_wp2
      go_roundw
      case rel => exact ⟨k + 1, by omega, by go_num, hset.out.drew, b6s.out.drew, b4s.out.drew, bl_drew hbs.out⟩
      case measure => simp [intOf]; omega
    · obtain rfl : k = 7 := by omega
      rw [hl.out] at b5
      have c5 := r14_.cells7' b5
      have c4 := r14_.cells7' b4
      have f4 := b4.fr
      have bn := (((((((b4.set 0 (.int .u64 (d * s)) (by simp)).set 1 (.int .u64 d) (by simp)).set 2 (.int .u64 (6 * x)) (by simp)).set 3 (.int .u64 y) (by simp)).set 4 (.int .u64 (c * (s + 4))) (by simp)).set 5 (.int .u64 b) (by simp)).set 6 (.int .u64 a) (by simp))
      have hbn := hide (bl_set (g := w.heap.size + 1) (o := 6) (bl_set (g := w.heap.size + 1) (o := 5) (bl_set (g := w.heap.size + 1) (o := 4) (bl_set (g := w.heap.size + 1) (o := 3) (bl_set (g := w.heap.size + 1) (o := 2) (bl_set (g := w.heap.size + 1) (o := 1) (bl_set (g := w.heap.size + 1) (o := 0) hb (by omega) (.int .u64 (d * s))) (by omega) (.int .u64 d)) (by omega) (.int .u64 (6 * x))) (by omega) (.int .u64 y)) (by omega) (.int .u64 (c * (s + 4)))) (by omega) (.int .u64 b)) (by omega) (.int .u64 a))
      have n8 := hide (r14_.cells7' bn)
      clear b5 b4 b6 hb bn
      go_wp2_with fail
      have n8 := n8.out
      exact bodyPost_ret (v := lenV a b c d x y s) (by simp [results, Tryz.results55, go_sem, n8]) rfl ⟨rfl, hbn.out⟩
/-- Offsets' row while it is filled: the sums up to k, nothing behind. -/
def offL (l : List Int) (k : Nat) : List Int := (List.range 8).map fun j => if j ≤ k then pre l j else 0
theorem offL_len (l : List Int) (k : Nat) : (offL l k).length = 8 := by simp [offL]
theorem offL_at (l : List Int) {k : Nat} (hk : k < 8) : (offL l k)[k]? = some (pre l k) := by
  unfold offL
  rw [List.getElem?_map, List.getElem?_range hk]
  simp
theorem offL_at1 (l : List Int) {k : Nat} (hk : k < 7) : (offL l k)[k + 1]? = some 0 := by
  unfold offL
  rw [List.getElem?_map, List.getElem?_range (by omega), Option.map_some, if_neg (by omega)]
theorem offL_set (l : List Int) {k : Nat} (hk : k < 7) : (offL l k).set (k + 1) (pre l (k + 1)) = offL l (k + 1) := by
  apply List.ext_getElem?
  intro j
  by_cases hj : j = k + 1
  · subst hj
    rw [List.getElem?_set_self (by rw [offL_len]; omega), offL_at l (by omega)]
  · rw [List.getElem?_set_ne (fun h => hj h.symm)]
    unfold offL
    rw [List.getElem?_map, List.getElem?_map]
    by_cases h8 : j < 8
    · rw [List.getElem?_range h8]
      by_cases hjk : j ≤ k
      · simp [hjk, show j ≤ k + 1 by omega]
      · simp [hjk, show ¬ j ≤ k + 1 by omega]
    · rw [List.getElem?_eq_none (by simp; omega)]
      rfl
theorem off_all (a b c d x y s : Int) : (offL (lenL a b c d x y s) 7).map (Value.int .u64) = [.int .u64 0, .int .u64 (d * s), .int .u64 (d * s + d), .int .u64 (d * s + d + 6 * x), .int .u64 (d * s + d + 6 * x + y), .int .u64 (d * s + d + 6 * x + y + c * (s + 4)), .int .u64 (d * s + d + 6 * x + y + c * (s + 4) + b), .int .u64 (d * s + d + 6 * x + y + c * (s + 4) + b + a)] := by
  show [Value.int .u64 _, .int .u64 _, .int .u64 _, .int .u64 _, .int .u64 _, .int .u64 _, .int .u64 _, .int .u64 _] = _
  simp [pre, lenL]
  omega
theorem off_0 (l : List Int) : (offL l 0).map (Value.int .u64) = [.int .u64 0, .int .u64 0, .int .u64 0, .int .u64 0, .int .u64 0, .int .u64 0, .int .u64 0, .int .u64 0] := by
  have h0 : pre l 0 = 0 := by cases l <;> rfl
  simp [offL, List.range, List.range.loop, h0]
theorem lix (a b c d x y s : Int) (k : Nat) (t : Int) (hk : k < 7) (h : (lenL a b c d x y s)[k]? = some t) (w : World) : (Instr.index 62 (lenV a b c d x y s) (.int .i64 k)).run Tryz.prog w = .ok (.int .u64 t) w := by
  match k, hk with
  | 0, _ => cases h; rfl
  | 1, _ => cases h; rfl
  | 2, _ => cases h; rfl
  | 3, _ => cases h; rfl
  | 4, _ => cases h; rfl
  | 5, _ => cases h; rfl
  | 6, _ => cases h; rfl
set_option maxHeartbeats 1000000 in
theorem Offsets (v a b c d x y s : Int) (w : World) (h : LyC a b c d x y s) : Calls Tryz.prog 23 #[hdV v a b c d x y, .int .i64 s] w fun e w' => e = .returned (offV a b c d x y s) ∧ Below w.heap.size w w' := by
  have hbd := hide (len_bd h)
  have L := hide (fun w => Lengths v a b c d x y s w h)
  have hlen : (lenL a b c d x y s).length = 7 := rfl
  have hPb := hide (fun k => pre_bd (lenL a b c d x y s) k 51539607552 (by decide) hbd.out)
  have hP := hide (pre_succ (lenL a b c d x y s))
  have hg := hide (fun k (hk : k < 7) => show ∃ t : Int, (lenL a b c d x y s)[k]? = some t ∧ 0 ≤ t ∧ t ≤ 51539607552 from ⟨_, List.getElem?_eq_getElem (by rw [hlen]; exact hk), hbd.out _ (List.getElem_mem _)⟩)
  have hO := hide (off_all a b c d x y s)
  have hX := hide (lix a b c d x y s)
  generalize lenL a b c d x y s = l at *
  clear h hbd
  have hb := hide (bl_new w (.cells #[.int .i64 v, .int .u32 a, .int .u32 b, .int .u32 c, .int .u32 d, .int .u32 x, .int .u32 y] 28))
  go_enter Tryz.func23, Tryz.ntmps23
  have b4 := hide ((show Bx ((w.alloc (.cells #[.int .i64 v, .int .u32 a, .int .u32 b, .int .u32 c, .int .u32 d, .int .u32 x, .int .u32 y] 28)).alloc (.cells #[.int .u64 0, .int .u64 0, .int .u64 0, .int .u64 0, .int .u64 0, .int .u64 0, .int .u64 0, .int .u64 0] 57)) (w.heap.size + 1) [.int .u64 0, .int .u64 0, .int .u64 0, .int .u64 0, .int .u64 0, .int .u64 0, .int .u64 0, .int .u64 0] from r14_.bx_snd _ _ _ _).alloc (.cells #[.int .u64 0, .int .u64 0, .int .u64 0, .int .u64 0, .int .u64 0, .int .u64 0, .int .u64 0, .int .u64 0] 57))
  have b5 : Hid (Bx (((w.alloc (.cells #[.int .i64 v, .int .u32 a, .int .u32 b, .int .u32 c, .int .u32 d, .int .u32 x, .int .u32 y] 28)).alloc (.cells #[.int .u64 0, .int .u64 0, .int .u64 0, .int .u64 0, .int .u64 0, .int .u64 0, .int .u64 0, .int .u64 0] 57)).alloc (.cells #[.int .u64 0, .int .u64 0, .int .u64 0, .int .u64 0, .int .u64 0, .int .u64 0, .int .u64 0, .int .u64 0] 57)) (w.heap.size + 1 + 1) ((offL l 0).map (Value.int .u64))) := hide (by
    have := r14_.bx_snd (w.alloc (.cells #[.int .i64 v, .int .u32 a, .int .u32 b, .int .u32 c, .int .u32 d, .int .u32 x, .int .u32 y] 28)) (.cells #[.int .u64 0, .int .u64 0, .int .u64 0, .int .u64 0, .int .u64 0, .int .u64 0, .int .u64 0, .int .u64 0] 57) [.int .u64 0, .int .u64 0, .int .u64 0, .int .u64 0, .int .u64 0, .int .u64 0, .int .u64 0, .int .u64 0] 57
    rw [show (w.alloc (.cells #[.int .i64 v, .int .u32 a, .int .u32 b, .int .u32 c, .int .u32 d, .int .u32 x, .int .u32 y] 28)).heap.size = w.heap.size + 1 by simp] at this
    rw [off_0]
    exact this)
  have bh := hide ((Bx.new w [.int .i64 v, .int .u32 a, .int .u32 b, .int .u32 c, .int .u32 d, .int .u32 x, .int .u32 y] 28).alloc (.cells #[.int .u64 0, .int .u64 0, .int .u64 0, .int .u64 0, .int .u64 0, .int .u64 0, .int .u64 0, .int .u64 0] 57) |>.alloc (.cells #[.int .u64 0, .int .u64 0, .int .u64 0, .int .u64 0, .int .u64 0, .int .u64 0, .int .u64 0, .int .u64 0] 57))
  replace hb := hide (bl_alloc (bl_alloc hb.out (.cells #[.int .u64 0, .int .u64 0, .int .u64 0, .int .u64 0, .int .u64 0, .int .u64 0, .int .u64 0, .int .u64 0] 57)) (.cells #[.int .u64 0, .int .u64 0, .int .u64 0, .int .u64 0, .int .u64 0, .int .u64 0, .int .u64 0, .int .u64 0] 57))
  go_upto_region 2 with fail
  generalize (((w.alloc (.cells #[.int .i64 v, .int .u32 a, .int .u32 b, .int .u32 c, .int .u32 d, .int .u32 x, .int .u32 y] 28)).alloc (.cells #[.int .u64 0, .int .u64 0, .int .u64 0, .int .u64 0, .int .u64 0, .int .u64 0, .int .u64 0, .int .u64 0] 57)).alloc (.cells #[.int .u64 0, .int .u64 0, .int .u64 0, .int .u64 0, .int .u64 0, .int .u64 0, .int .u64 0, .int .u64 0] 57)) = w0 at *
  have h7 := r14_.cells7' bh.out
  go_wp2_with fail
  refine (L.out _).mono ?_
  rintro e w1 ⟨rfl, h1⟩
  replace hb := hide (bel_next hb.out h1)
  replace b4 := hide (b4.out.below h1)
  replace b5 := hide (b5.out.below h1)
  clear h1 h7 bh
  go_wp2
  go_loopw [11] (fun iv wr => ∃ k : Nat, k ≤ 7 ∧ iv = .int .i64 k ∧ Bx wr (w.heap.size + 1 + 1) ((offL l k).map (Value.int .u64)) ∧ Bx wr (w.heap.size + 1) [.int .u64 0, .int .u64 0, .int .u64 0, .int .u64 0, .int .u64 0, .int .u64 0, .int .u64 0, .int .u64 0] ∧ Below w.heap.size w wr) (fun iv _ => 7 - (intOf iv).toNat)
  case atStart => exact ⟨0, by omega, rfl, b5.out, b4.out, hb.out⟩
  case round =>
    clear b4 b5 hb
    obtain ⟨k, hk, rfl, b5, b4, hb⟩ := hrel
    rcases Nat.lt_or_ge k 7 with hlt | hge
    · obtain ⟨z, hz, z0, z1⟩ := hg.out k hlt
      have e1 := hP.out k z hz
      obtain ⟨p0, p1⟩ := hPb.out k
      rw [show (l.length : Int) = 7 by omega] at p1
      have hix := hX.out k z hlt hz
      have hc5 := r14_.cell_l b5 (offL_at l (by omega : k < 8))
      have hc6 := r14_.cell_l b5 (offL_at1 l hlt)
      have hfr := b5.fr (k + 1)
      have hset := b5.set (k + 1) (.int .u64 (pre l (k + 1))) (by rw [List.length_map, offL_len]; omega)
      rw [← List.map_set, offL_set l hlt] at hset
      have b4s := hide (b4.set_ne (g' := w.heap.size + 1 + 1) (k + 1) (by omega) (.int .u64 (pre l (k + 1))))
      have hbs := hide (bl_set (g := w.heap.size + 1 + 1) (o := k + 1) hb (by omega) (.int .u64 (pre l (k + 1))))
      replace hset := hide hset
      generalize pre l k = t at *
      generalize pre l (k + 1) = t' at *
      clear b4 b5 hb hz
      have w64 : IntKind.u64.wrap (t + z) = t' := by rw [IntKind.wrap_u64, e1]; omega
      replace e1 := hide e1
      go_wp2
      go_roundw
      case rel => exact ⟨k + 1, by omega, by go_num, hset.out, b4s.out, hbs.out⟩
      case measure => simp [intOf]; omega
    · obtain rfl : k = 7 := by omega
      have b5' := b5
      rw [hO.out] at b5'
      have c5 := r14_.cells8 b5'
      have c4 := r14_.cells8 b4
      have f4 := b4.fr
      have bn := ((((((((b4.set 0 (.int .u64 0) (by simp)).set 1 (.int .u64 (d * s)) (by simp)).set 2 (.int .u64 (d * s + d)) (by simp)).set 3 (.int .u64 (d * s + d + 6 * x)) (by simp)).set 4 (.int .u64 (d * s + d + 6 * x + y)) (by simp)).set 5 (.int .u64 (d * s + d + 6 * x + y + c * (s + 4))) (by simp)).set 6 (.int .u64 (d * s + d + 6 * x + y + c * (s + 4) + b)) (by simp)).set 7 (.int .u64 (d * s + d + 6 * x + y + c * (s + 4) + b + a)) (by simp))
      have hbn := hide (bl_set (g := w.heap.size + 1) (o := 7) (bl_set (g := w.heap.size + 1) (o := 6) (bl_set (g := w.heap.size + 1) (o := 5) (bl_set (g := w.heap.size + 1) (o := 4) (bl_set (g := w.heap.size + 1) (o := 3) (bl_set (g := w.heap.size + 1) (o := 2) (bl_set (g := w.heap.size + 1) (o := 1) (bl_set (g := w.heap.size + 1) (o := 0) hb (by omega) (.int .u64 0)) (by omega) (.int .u64 (d * s))) (by omega) (.int .u64 (d * s + d))) (by omega) (.int .u64 (d * s + d + 6 * x))) (by omega) (.int .u64 (d * s + d + 6 * x + y))) (by omega) (.int .u64 (d * s + d + 6 * x + y + c * (s + 4)))) (by omega) (.int .u64 (d * s + d + 6 * x + y + c * (s + 4) + b))) (by omega) (.int .u64 (d * s + d + 6 * x + y + c * (s + 4) + b + a)))
      have n8 := hide (r14_.cells8 bn)
      clear b5 b4 b5' hb bn
      go_wp2_with fail
      have n8 := n8.out
      exact bodyPost_ret (v := offV a b c d x y s) (by simp [results, Tryz.results23, go_sem, n8]) rfl ⟨rfl, hbn.out⟩
theorem tot_eq (a b c d x y s : Int) : totSz (cntL a b c d x y) (widL s) (min 7 7) = totV a b c d x y s := by
  simp [totSz, cntL, widL]
  omega
theorem tot_0 {a b c d x y s : Int} (h : LyC a b c d x y s) : 0 ≤ totV a b c d x y s := by
  obtain ⟨⟨a0, a1⟩, ⟨b0, b1⟩, ⟨c0, c1⟩, ⟨d0, d1⟩, ⟨x0, x1⟩, ⟨y0, y1⟩, hs⟩ := h
  rcases hs with rfl | rfl
  all_goals
    simp only [totV]
    omega
theorem tot_1 {a b c d x y s : Int} (h : LyC a b c d x y s) : totV a b c d x y s ≤ 18446744073709551616 := by
  obtain ⟨⟨a0, a1⟩, ⟨b0, b1⟩, ⟨c0, c1⟩, ⟨d0, d1⟩, ⟨x0, x1⟩, ⟨y0, y1⟩, hs⟩ := h
  rcases hs with rfl | rfl
  all_goals
    simp only [totV]
    omega
theorem Total (v a b c d x y s t r : Int) (ok : Bool) (w : World) (h : LyC a b c d x y s) (h0 : 0 ≤ t) (h2 : t < 18446744073709551616) (hs : Sz r ok (totV a b c d x y s) t) : Calls Tryz.prog 53 #[hdV v a b c d x y, .int .i64 s, .int .u64 t] w fun e w' => e = .returned (.tuple #[.int .u64 r, .bool ok]) ∧ Below w.heap.size w w' := by
  have C := hide (fun w => counts v a b c d x y s w h)
  have W := hide (fun w => widths s w h.s)
  have hx : Words (cntL a b c d x y) := words_of_mem (by
    obtain ⟨⟨a0, a1⟩, ⟨b0, b1⟩, ⟨c0, c1⟩, ⟨d0, d1⟩, ⟨x0, x1⟩, ⟨y0, y1⟩, hs⟩ := h
    intro t ht
    simp [cntL] at ht
    omega)
  have hy : Words (widL s) := words_of_mem (by
    have := h.s
    intro t ht
    simp [widL] at ht
    omega)
  rw [← tot_eq] at hs
  have TT := hide (fun w A B hr hq => sz_.Total A 7 7 B 7 7 (cntL a b c d x y) (widL s) t r ok w (by omega) (by omega) hr hq hx hy h0 h2 hs)
  have hc := hide (show (cntL a b c d x y).map (Value.int .u64) = [.int .u64 d, .int .u64 d, .int .u64 x, .int .u64 y, .int .u64 c, .int .u64 b, .int .u64 a] from rfl)
  have hw := hide (show (widL s).map (Value.int .u64) = [.int .u64 s, .int .u64 1, .int .u64 6, .int .u64 1, .int .u64 (s + 4), .int .u64 1, .int .u64 1] from rfl)
  clear h hs hx hy
  generalize cntL a b c d x y = cs at *
  generalize widL s = ws at *
  have hb := hide (bl_new w (.cells #[.int .i64 v, .int .u32 a, .int .u32 b, .int .u32 c, .int .u32 d, .int .u32 x, .int .u32 y] 28))
  have bh := hide (Bx.new w [.int .i64 v, .int .u32 a, .int .u32 b, .int .u32 c, .int .u32 d, .int .u32 x, .int .u32 y] 28)
  go_enter Tryz.func53, Tryz.ntmps53
  go_upto_region 1 with fail
  generalize (w.alloc (.cells #[.int .i64 v, .int .u32 a, .int .u32 b, .int .u32 c, .int .u32 d, .int .u32 x, .int .u32 y] 28)) = w0 at *
  have h7 := r14_.cells7' bh.out
  go_wp2_with fail
  refine (C.out _).mono ?_
  rintro e w1 ⟨rfl, h1⟩
  replace hb := hide (bel_next hb.out h1)
  clear h1 h7 bh
  go_wp2_with fail
  refine (W.out _).mono ?_
  rintro e w2 ⟨rfl, h1⟩
  replace hb := hide (bel_next hb.out h1)
  clear h1
  have b5 : Rd ((w2.alloc (.cells #[.int .u64 d, .int .u64 d, .int .u64 x, .int .u64 y, .int .u64 c, .int .u64 b, .int .u64 a] 62)).alloc (.cells #[.int .u64 s, .int .u64 1, .int .u64 6, .int .u64 1, .int .u64 (s + 4), .int .u64 1, .int .u64 1] 62)) (some ⟨w2.heap.size, 0, none⟩) 7 (cs.map (Value.int .u64)) := by rw [hc.out]; exact rd_bx ((Bx.new w2 [.int .u64 d, .int .u64 d, .int .u64 x, .int .u64 y, .int .u64 c, .int .u64 b, .int .u64 a] 62).alloc (.cells #[.int .u64 s, .int .u64 1, .int .u64 6, .int .u64 1, .int .u64 (s + 4), .int .u64 1, .int .u64 1] 62))
  have b6 : Rd ((w2.alloc (.cells #[.int .u64 d, .int .u64 d, .int .u64 x, .int .u64 y, .int .u64 c, .int .u64 b, .int .u64 a] 62)).alloc (.cells #[.int .u64 s, .int .u64 1, .int .u64 6, .int .u64 1, .int .u64 (s + 4), .int .u64 1, .int .u64 1] 62)) (some ⟨w2.heap.size + 1, 0, none⟩) 7 (ws.map (Value.int .u64)) := by rw [hw.out]; exact rd_bx (r14_.bx_snd w2 (.cells #[.int .u64 d, .int .u64 d, .int .u64 x, .int .u64 y, .int .u64 c, .int .u64 b, .int .u64 a] 62) [.int .u64 s, .int .u64 1, .int .u64 6, .int .u64 1, .int .u64 (s + 4), .int .u64 1, .int .u64 1] 62)
  replace hb := hide (bl_alloc (bl_alloc hb.out (.cells #[.int .u64 d, .int .u64 d, .int .u64 x, .int .u64 y, .int .u64 c, .int .u64 b, .int .u64 a] 62)) (.cells #[.int .u64 s, .int .u64 1, .int .u64 6, .int .u64 1, .int .u64 (s + 4), .int .u64 1, .int .u64 1] 62))
  replace TT := hide (TT.out _ _ _ (b5.drewN 1) (b6.drewN 1))
  clear b5 b6
  go_upto_region 2 with fail
  generalize ((w2.alloc (.cells #[.int .u64 d, .int .u64 d, .int .u64 x, .int .u64 y, .int .u64 c, .int .u64 b, .int .u64 a] 62)).alloc (.cells #[.int .u64 s, .int .u64 1, .int .u64 6, .int .u64 1, .int .u64 (s + 4), .int .u64 1, .int .u64 1] 62)) = w3 at *
  go_wp2_with fail
  go_region_with (first | (go_at_call 72; refine TT.out.mono ?_; rintro e w4 ⟨rfl, h4⟩; have hb4 := hide (bel_next (bl_drew hb.out) h4); clear h4))
  all_goals
    go_wp2
    go_ret2
    exact ⟨rfl, hb4.out⟩
theorem Total_yes (v a b c d x y s t : Int) (w : World) (h : LyC a b c d x y s) (h1 : totV a b c d x y s ≤ t) (h2 : t < 18446744073709551616) : Calls Tryz.prog 53 #[hdV v a b c d x y, .int .i64 s, .int .u64 t] w fun e w' => e = .returned (.tuple #[.int .u64 (totV a b c d x y s), .bool true]) ∧ Below w.heap.size w w' :=
  Total v a b c d x y s t _ true w h (Int.le_trans (tot_0 h) h1) h2 (.inl ⟨rfl, rfl, h1⟩)
theorem Total_no (v a b c d x y s t : Int) (w : World) (h : LyC a b c d x y s) (h0 : 0 ≤ t) (h1 : t < totV a b c d x y s) : Calls Tryz.prog 53 #[hdV v a b c d x y, .int .i64 s, .int .u64 t] w fun e w' => e = .returned (.tuple #[.int .u64 0, .bool false]) ∧ Below w.heap.size w w' :=
  Total v a b c d x y s t 0 false w h h0 (Int.lt_of_lt_of_le h1 (tot_1 h)) (.inr ⟨rfl, rfl, h1⟩)
end ly_
end Go.Proofs.YtbajdlgcajeldaaGreatDoor

/-
  CONTRACT OF THE REFERENCE zoneinforef22.View. Conditions: a small block, valid for some version and 8-byte times.
-/
import Derived.Test.YtgbojkbhkjameaaLgB
import Derived.Test.YtgbojkbhkjameaaLgN
import Derived.Deep.RegionLaw
namespace Go.Proofs.Ytgbojkbhkjameaa
open Go.ChangeShapes Go.WideShapes Go.ChangeAt Go.RowKit
set_option linter.unusedVariables false
set_option linter.unusedSimpArgs false
set_option maxRecDepth 100000
theorem elI64R : ElT Try.prog 22 2 (.int .i64 0) 8 := ⟨Try.underlying22, by kernel_rfl, rfl⟩
theorem elBoR : ElT Try.prog 26 4 (.bool false) 1 := ⟨Try.underlying26, by kernel_rfl, rfl⟩
theorem own_grownK {w w' : World} {b n c s : Nat} {e : TypeId} {A A2 : Option Addr} {xs : List Value} (h : Ok s w b e A n c xs) (hg : w.grownBy w' (oB A2)) (hd : Dj A A2) : Ok s w' b e A n c xs := by
  refine ⟨Nat.le_trans h.1 hg.size, h.2.kept hg ?_⟩
  rw [oB_own]
  rcases hA : oB A with _ | g
  · exact .inl rfl
  · exact .inr fun h' => hd g hA h'.symm
theorem swp_step {α : Type} {l : List α} {k m : Nat} (d : α) {x : α} (hm : m < l.length) (hk : k < l.length) (hx : l[other m k]? = some x) : (swp l k d).take (m + 1) = (swp l k d).take m ++ [x] := by
  rw [List.take_add_one, swp_at d hm hk, hx]
  rfl
theorem bls_app (a b : List Bool) : bls (a ++ b) = bls a ++ bls b := List.map_append
section
variable {P : Program} {t e : TypeId} {z : Value} {by_ : Nat} {ops : Array Oper} {o : Oper} {a : Act} {Q : Exit → Act → World → Prop}
theorem step_apAG (E : ElT P t e z by_) {EE : Prop} {K : Act → World → Prop} {W w0 : World} {b B : Nat} {A : Option Addr} {n c : Nat} {xs : List Value} (hown : Ow W b e A n c xs) (hB : Below B w0 W) (hBb : B ≤ b)
    {S : Option Addr} {m d : Nat} {news : List Value} (hr : Rd W S m news)
    (s x : Operand) (hgd : o.guard = none) (ho : o.op = .call { callee := .builtin .append, args := #[s, x], argTypes := #[t, t] })
    (hs : a.eval s = .slice A n c) (hx : a.eval x = .slice S m d) (hS : S = none → m = 0 ∧ d = 0) (h1 : ∀ u ∈ news, u.oneCell' = true) (hm : n + m ≤ maxLen) (hby : (n + m) * by_ ≤ 140737488355328)
    (h : ∀ A' c' w', Ow w' b e A' (n + m) c' (xs ++ news) → Below B w0 w' → Gw W w' A A' → K (a.put o.dst (.slice A' (n + m) c')) w') :
    if Region.wanted o (yielded ops a.tmps) = true then Oper.wp P o a W K Q else EE := by
  obtain ⟨i, hi, hz, hsz, hbb⟩ := info_parts E.2.1
  have hw : Region.wanted o (yielded ops a.tmps) = true := by simp [Region.wanted, hgd]
  rw [if_pos hw]
  rcases S with _ | ad
  · obtain ⟨rfl, rfl⟩ := hS rfl
    have hn : news = [] := List.eq_nil_of_length_eq_zero (by have := hr.len; omega)
    subst hn
    have hrun := run_append_owned_none (P := P) (w := W) b t o.type e i 1 E.1 hi (.slice A n c) n xs hown.2
    unfold Oper.wp
    simp [execOp, ho, resolve, invoke, builtin, hs, hx, hrun, Result.andThen]
    have key := h A c W (by simpa using hown) hB ⟨⟨rfl, rfl, rfl, Nat.le_refl _, fun _ _ _ => rfl⟩, .inl rfl⟩
    rw [Nat.add_zero] at key
    exact key
  · obtain ⟨v', w', hrun, hown', hg, hnil, hat⟩ := run_append_own_at (P := P) W b t o.type e i z 1 by_ E.1 hi hz hsz hbb (by rw [E.2.2]; rfl) (by omega) (.slice A n c) n xs hown.2 ad m d news (by have := hr.len; omega)
      (fun j v hj => by
        have hl : j < m := by
          have := hr.len
          have := (List.getElem?_eq_some_iff.1 hj).1
          omega
        obtain ⟨ad', e', hc⟩ := hr.2 (by omega)
        cases e'
        exact hc j v hj) h1 hm hby hown.1
    rw [oB_own] at hg hat
    have hsz' := hown.1
    have hB' : Below B w0 w' := hB.grown hg (by omega) (fun k hk => by have := (hown.blk hk).1; omega)
    have hb' : b ≤ w'.heap.size := by have := hg.size; omega
    unfold Oper.wp
    simp [execOp, ho, resolve, invoke, builtin, hs, hx, hrun, Result.andThen]
    rcases hown'.2 with ⟨rfl, h0⟩ | ⟨g, cap, cur, rfl, _⟩
    · have e0 : n + m = 0 := h0
      have := h none 0 w' ⟨hb', by rw [e0] at hown' ⊢; exact hown'⟩ hB' ⟨hg, hat⟩
      rw [e0] at this
      exact this
    · exact h _ _ _ ⟨hb', hown'⟩ hB' ⟨hg, hat⟩
end
namespace r22_
set_option maxHeartbeats 8000000 in
theorem View (S : BkS) (b : Bk) (four : Bool) (w : World) (h : IsBk w S b) (hs : S.small) (hv : BOk b four 8) : Calls Try.prog 18 #[bkV S] w fun e w' => ∃ V, e = .returned (bkV V) ∧ OwBk w' w.heap.size V (viewB b) ∧ Below w.heap.size w w' := by
  obtain ⟨l0, l1, l2, l3, l4, l5, l6⟩ := h.lens
  obtain ⟨q0, q1, q2, q3, q4⟩ := hv.cnts
  obtain ⟨e0, e1⟩ := inE_bd hv h.ok (-2147483649)
  have hok := hide (view_bk hv h.ok)
  obtain ⟨kn, hkn⟩ : ∃ kn : Nat, inE b (-2147483649) = (kn : Int) := ⟨(inE b (-2147483649)).toNat, by omega⟩
  have hk2 : (inE b (-2147483649)).toNat = kn := by omega
  have kT : kn < S.ty.n := by omega
  obtain ⟨e2, e3⟩ := inE_byte h.ok (-2147483649)
  have k8 : kn < 256 := by omega
  clear e2 e3
  obtain ⟨n0, n1, n2, n3, n4, n5, n6⟩ := hs
  have E := hide (fun W (hb : Below w.heap.size w W) => (show Calls Try.prog 15 #[.agg (blA S), .int .i64 (-2147483649)] W fun e w' => e = .returned (.int .i64 (kn : Int)) ∧ Below W.heap.size W w' from by rw [← hkn]; exact InEffect S b (-2147483649) W (h.below hb) ⟨n0, n1, n2, n3, n4, n5, n6⟩ (by omega)))
  have hR := hide (fun W (hb : Below w.heap.size w W) => h.below hb)
  have OT := hide (fun i k W => other_ i k W)
  have gl : ∀ i, i < S.ti.n → ∃ x y, b.ti[i]? = some x ∧ b.ix[i]? = some y := fun i hi => ⟨_, _, List.getElem?_eq_getElem (by omega), List.getElem?_eq_getElem (by omega)⟩
  replace gl := hide gl
  have gp : ∀ i, i < S.lp.n → ∃ t, b.lp[i]? = some t := fun i hi => ⟨_, List.getElem?_eq_getElem (by omega)⟩
  replace gp := hide gp
  have gT : ∀ i, i < S.ty.n → other i kn < S.ty.n ∧ ∃ t, b.ty[other i kn]? = some t ∧ (swp b.ty kn (0, false, 0)).take (i + 1) = (swp b.ty kn (0, false, 0)).take i ++ [t] := fun i hi => by
    have ho := other_lt hi kT
    obtain ⟨t, ht⟩ : ∃ t, b.ty[other i kn]? = some t := ⟨_, List.getElem?_eq_getElem (by omega)⟩
    exact ⟨ho, t, ht, swp_step _ (by omega) (by omega) ht⟩
  replace gT := hide gT
  have gB : ∀ (l : List Bool), l.length = S.ty.n → ∀ i, i < S.ty.n → ∃ t, l[other i kn]? = some t ∧ (swp l kn false).take (i + 1) = (swp l kn false).take i ++ [t] := fun l hl i hi => by
    have ho := other_lt hi kT
    obtain ⟨t, ht⟩ : ∃ t, l[other i kn]? = some t := ⟨_, List.getElem?_eq_getElem (by omega)⟩
    exact ⟨t, ht, swp_step _ (by omega) (by omega) ht⟩
  replace gB := hide gB
  have Hsd := hide (show (S.sd.n = 0 ∧ b.sd = []) ∨ (S.sd.n = S.ty.n ∧ b.sd.length = S.ty.n) from q3.imp (fun q => ⟨by omega, List.length_eq_zero_iff.1 q⟩) (fun q => ⟨by omega, by omega⟩))
  have Hut := hide (show (S.ut.n = 0 ∧ b.ut = []) ∨ (S.ut.n = S.ty.n ∧ b.ut.length = S.ty.n) from q4.imp (fun q => ⟨by omega, List.length_eq_zero_iff.1 q⟩) (fun q => ⟨by omega, by omega⟩))
  have ipos := hide (fun (y : Int) (hy : y ∈ b.ix) => h.ok.ix.mem y hy)
  have fT := hide (tN_all (b := b) (m := S.ti.n) (by omega))
  have fX := hide (xN_all (b := b) (m := S.ti.n) (by omega) hk2)
  have fL := hide (lN_all (b := b) (m := S.lp.n) (by omega))
  have tk := hide (fun (α : Type) (l : List α) (d : α) (hl : l.length = S.ty.n ∨ l = []) => (show (swp l kn d).take S.ty.n = swp l kn d from List.take_of_length_le (by rw [swp_len]; rcases hl with q | q; omega; rw [q]; simp)))
  have fV := hide (show (viewB b).ty = swp b.ty kn (0, false, 0) ∧ (viewB b).ch = b.ch ∧ (viewB b).sd = swp b.sd kn false ∧ (viewB b).ut = swp b.ut kn false from by unfold viewB; rw [hk2]; exact ⟨rfl, rfl, rfl, rfl⟩)
  have hch := hide h.och.1
  have hchn := hide (fun W (hb : Below w.heap.size w W) => (h.below hb).ch)
  have och1 := hide (oneCells .u8 b.ch)
  have l2' := hide (show b.ty.length = S.ty.n ∨ b.ty = [] from .inl l2)
  have hb := hide (bl_alloc (bl_new w (.cells (blA S) 28)) (.cells #[.slice none 0 0, .slice none 0 0, .slice none 0 0, .slice none 0 0, .slice none 0 0, .slice none 0 0, .slice none 0 0] 28))
  have k := hide ((Ro.new w (blA S) 28).alloc (.cells #[.slice none 0 0, .slice none 0 0, .slice none 0 0, .slice none 0 0, .slice none 0 0, .slice none 0 0, .slice none 0 0] 28))
  have k2 := hide (Ro.new (w.alloc (.cells (blA S) 28)) #[.slice none 0 0, .slice none 0 0, .slice none 0 0, .slice none 0 0, .slice none 0 0, .slice none 0 0, .slice none 0 0] 28)
  simp only [World.size_alloc] at k2
  have k0c := hide (show (blA S)[0]? = some (.slice S.ti.A S.ti.n S.ti.c) from rfl)
  have k1c := hide (show (blA S)[1]? = some (.slice S.ix.A S.ix.n S.ix.c) from rfl)
  have k2c := hide (show (blA S)[2]? = some (.slice S.ty.A S.ty.n S.ty.c) from rfl)
  have k3c := hide (show (blA S)[3]? = some (.slice S.ch.A S.ch.n S.ch.c) from rfl)
  have k4c := hide (show (blA S)[4]? = some (.slice S.lp.A S.lp.n S.lp.c) from rfl)
  have k5c := hide (show (blA S)[5]? = some (.slice S.sd.A S.sd.n S.sd.c) from rfl)
  have k6c := hide (show (blA S)[6]? = some (.slice S.ut.A S.ut.n S.ut.c) from rfl)
  have nix := hide (show S.ix.n = S.ti.n by omega)
  have G := gr_blk S
  clear h hv l0 l1 l2 l3 l5 l6 q0 q1 q2 q3 q4 e0 e1 hkn hk2 kT
  show Calls Try.prog 18 #[.agg (blA S)] w _
  generalize blA S = cs at *
  go_enter Try.func18, Try.ntmps18
  go_upto_region 1 with fail
  generalize (w.alloc (.cells cs 28)).alloc (.cells #[.slice none 0 0, .slice none 0 0, .slice none 0 0, .slice none 0 0, .slice none 0 0, .slice none 0 0, .slice none 0 0] 28) = x0 at *
  go_wp2_with (first | (refine load_row_g (by rfl) 28 _ rfl _ rfl _ _ _ k.out Try.underlying28 rfl G.1 ?_) | fail)
  refine (E.out _ hb.out).mono ?_
  rintro e x1 ⟨rfl, h1⟩
  replace k := hide (k.out.below h1)
  replace k2 := hide (k2.out.below h1)
  replace hb := hide (bel_next hb.out h1)
  clear h1 E
  have kv := hide (Ro.new x1 #[.slice none 0 0, .slice none 0 0, .slice none 0 0, .slice none 0 0, .slice none 0 0, .slice none 0 0, .slice none 0 0] 28)
  have hkv := hide (show w.heap.size ≠ x1.heap.size from by have := k.out.lt; omega)
  have hk2v := hide (show w.heap.size + 1 ≠ x1.heap.size from by have := k2.out.lt; omega)
  have hgw := hide hb.out.size
  replace k := hide (k.out.alloc (.cells #[.slice none 0 0, .slice none 0 0, .slice none 0 0, .slice none 0 0, .slice none 0 0, .slice none 0 0, .slice none 0 0] 28))
  replace k2 := hide (k2.out.alloc (.cells #[.slice none 0 0, .slice none 0 0, .slice none 0 0, .slice none 0 0, .slice none 0 0, .slice none 0 0, .slice none 0 0] 28))
  have hb1 := hide (bl_alloc hb.out (.cells #[.slice none 0 0, .slice none 0 0, .slice none 0 0, .slice none 0 0, .slice none 0 0, .slice none 0 0, .slice none 0 0] 28))
  have hgv := hide kv.out.lt
  clear hb
  go_upto_region 3 with fail
  generalize x1.alloc (.cells #[.slice none 0 0, .slice none 0 0, .slice none 0 0, .slice none 0 0, .slice none 0 0, .slice none 0 0, .slice none 0 0] 28) = w1 at *
  generalize x1.heap.size = gv at *
  go_wp2
  go_loopw [5] (fun i wr => ∃ (m n0 n1 c0 c1 : Nat) (A0 A1 : Option Addr), m ≤ S.ti.n ∧ i = .int .i64 (m : Nat) ∧ Hid (Ro wr gv #[.slice A0 n0 c0, .slice A1 n1 c1, .slice none 0 0, .slice none 0 0, .slice none 0 0, .slice none 0 0, .slice none 0 0] 28) ∧ Hid (Ow wr w1.heap.size 2 A0 n0 c0 ((tN b m).map (Value.int .i64))) ∧ Hid (Ow wr w1.heap.size 5 A1 n1 c1 ((xN b kn m).map (Value.int .u8))) ∧ Hid (But gv w1 wr)) (fun i _ => S.ti.n - (intOf i).toNat)
  case atStart => exact ⟨0, 0, 0, 0, 0, none, none, by omega, rfl, kv, hide (Ow.nil (Nat.le_refl _) _), hide (Ow.nil (Nat.le_refl _) _), hide (But.refl gv w1)⟩
  case round =>
    obtain ⟨m, n0, n1, c0, c1, A0, A1, hm, rfl, kv', o0, o1, bt⟩ := hrel
    have kv1 := hide kv.out
    replace kv := kv'
    clear kv'
    obtain ⟨y0, _⟩ := ro_cf (ro_but k.out bt.out hkv.out) 0 _ k0c.out
    by_cases hlt : m < S.ti.n
    · obtain ⟨x, y, hx0, hy⟩ := gl.out m hlt
      have ht := hide (tN_step hx0)
      have hx := hide (xN_step (k := kn) hx0 hy)
      obtain ⟨ad, e0, c0_⟩ := (hR.out _ (But.down hb1.out hgw.out bt.out)).ti.int hlt
      rw [hx0] at c0_
      simp only [Option.getD_some] at c0_
      have k0d := hide (show cs[0]? = some (.slice (some ad) S.ti.n S.ti.c) by rw [← e0]; exact k0c.out)
      have el := hide (show ∀ W, Below w.heap.size w W → W.cell? (ad.add m) = some (.int .i64 x) from fun W hB => by
        obtain ⟨ad', e', c_⟩ := (hR.out W hB).ti.int hlt
        rw [e0] at e'
        cases e'
        rw [hx0] at c_
        simpa using c_)
      have d1 : (m : Int) < (S.ti.n : Int) := by omega
      have i1 : IntKind.i64.wrap ((m : Int) + 1) = ((m + 1 : Nat) : Int) := by rw [IntKind.wrap_i64]; omega
      have hlx : m < S.ix.n := by rw [nix.out]; exact hlt
      have d2 : (m : Int) < (S.ix.n : Int) := by omega
      obtain ⟨ad1, e1, _⟩ := (hR.out _ (But.down hb1.out hgw.out bt.out)).ix.int hlx
      have k1d := hide (show cs[1]? = some (.slice (some ad1) S.ix.n S.ix.c) by rw [← e1]; exact k1c.out)
      have el1 := hide (show ∀ W, Below w.heap.size w W → W.cell? (ad1.add m) = some (.int .u8 y) from fun W hB => by
        obtain ⟨ad', e', c_⟩ := (hR.out W hB).ix.int hlx
        rw [e1] at e'
        cases e'
        rw [hy] at c_
        simpa using c_)
      obtain ⟨yb0, yb1⟩ := ipos.out y (List.mem_of_getElem? hy)
      obtain ⟨yn, rfl⟩ : ∃ yn : Nat, y = (yn : Int) := ⟨y.toNat, by omega⟩
      rw [show ((yn : Int)).toNat = yn from rfl] at hx
      rw [e0] at y0
      clear hx0 hy e0 e1
      by_cases hin : in32 x = true
      · rw [if_pos hin] at ht hx
        have hin2 : -2147483648 ≤ x ∧ x ≤ 2147483647 := by unfold in32 at hin; simpa using hin
        have g1 : decide (-2147483648 ≤ x) = true := decide_eq_true hin2.1
        have g2 : decide (x ≤ 2147483647) = true := decide_eq_true hin2.2
        have hl0 : n0 ≤ m := by have := o0.out.len; simp at this; have := tN_len b m; omega
        have hl1 : n1 ≤ m := by have := o1.out.len; simp at this; have := xN_len b kn m; omega
        have apm := hide (show n0 + 1 ≤ maxLen by simp [maxLen]; omega)
        have apb := hide (show (n0 + 1) * 8 ≤ 140737488355328 by omega)
        have one1 := hide (show ∀ u ∈ [Value.int .i64 x], u.oneCell' = true by simp [Value.oneCell'])
        have cv1 : ∀ w : World, (convert 5 3 (.int .u8 (yn : Int))).run Try.prog w = .ok (.int .i64 (yn : Int)) w := fun w => by simp [go_sem]; rw [IntKind.wrap_i64]; omega
        have cv2 : ∀ w : World, (convert 3 5 (.int .i64 ((other yn kn : Nat) : Int))).run Try.prog w = .ok (.int .u8 ((other yn kn : Nat) : Int)) w := fun w => by
          have : other yn kn < 256 := by
            unfold other
            split
            · omega
            · split <;> omega
          simp [go_sem]
          rw [IntKind.wrap_u8]
          omega
        replace hin2 := hide hin2
        go_upto_region 7 with fail
        clear y0 g1 g2
        go_cut [] (fun wz => ∃ (A0' : Option Addr) (c0' : Nat), Hid (Ro wz gv #[.slice A0' (n0 + 1) c0', .slice A1 n1 c1, .slice none 0 0, .slice none 0 0, .slice none 0 0, .slice none 0 0, .slice none 0 0] 28) ∧ Hid (Ow wz w1.heap.size 2 A0' (n0 + 1) c0' ((tN b m).map (Value.int .i64) ++ [.int .i64 x])) ∧ Hid (Ow wz w1.heap.size 5 A1 n1 c1 ((xN b kn m).map (Value.int .u8))) ∧ Hid (But gv w1 wz))
        case first =>
          replace kv := hide kv.out.drew
          replace o0 := hide o0.out.drew
          replace o1 := hide o1.out.drew
          refine wp_region_held_drew (S := fun w' => Hid (But gv w1 w')) (by kernel_rfl) (hide bt.out.drew) (fun hHeld => ?_)
          generalize wr.drew = u0 at *
          refine wpAnyH_takeD (i := 0) (d := (some 31)) (v := ?_) rfl rfl (by kernel_rfl) (by kernel_rfl) (by kernel_rfl) (fun _ _ _ h => h) (Or.inl ⟨by rfl, ?_⟩) (by assumption) ?_
          rotate_left
          · ((intro w hSw; go_simp) <;> with_reducible rfl)
          try simp only [Act.put, List.setIfInBounds_toArray, List.set_cons_zero, List.set_cons_succ]
          refine wpAnyH_takeD (i := 2) (d := (some 33)) (v := ?_) rfl rfl (by kernel_rfl) (by kernel_rfl) (by kernel_rfl) (fun _ _ _ h => h) (Or.inl ⟨by rfl, ?_⟩) (by assumption) ?_
          rotate_left
          · ((intro w hSw; go_simp) <;> with_reducible rfl)
          try simp only [Act.put, List.setIfInBounds_toArray, List.set_cons_zero, List.set_cons_succ]
          refine wpAnyH_takeD (i := 3) (d := (some 34)) (v := ?_) rfl rfl (by kernel_rfl) (by kernel_rfl) (by kernel_rfl) (fun _ _ _ h => h) (Or.inl ⟨by rfl, ?_⟩) (by assumption) ?_
          rotate_left
          · ((intro w hSw; obtain ⟨q_, _⟩ := ro_cf (ro_but k.out hSw.out hkv.out) 0 _ k0d.out; go_simp) <;> with_reducible rfl)
          try simp only [Act.put, List.setIfInBounds_toArray, List.set_cons_zero, List.set_cons_succ]
          refine wpAnyH_takeD (i := 4) (d := (some 35)) (v := ?_) rfl rfl (by kernel_rfl) (by kernel_rfl) (by kernel_rfl) (fun _ _ _ h => h) (Or.inl ⟨by rfl, ?_⟩) (by assumption) ?_
          rotate_left
          · ((intro w hSw; go_simp) <;> with_reducible rfl)
          try simp only [Act.put, List.setIfInBounds_toArray, List.set_cons_zero, List.set_cons_succ]
          refine wpAnyH_takeD (i := 5) (d := (some 36)) (v := ?_) rfl rfl (by kernel_rfl) (by kernel_rfl) (by kernel_rfl) (fun _ _ _ h => h) (Or.inl ⟨by rfl, ?_⟩) (by assumption) ?_
          rotate_left
          · ((intro w hSw; go_simp) <;> with_reducible rfl)
          try simp only [Act.put, List.setIfInBounds_toArray, List.set_cons_zero, List.set_cons_succ]
          refine wpAnyH_takeD (i := 6) (d := (some 37)) (v := ?_) rfl rfl (by kernel_rfl) (by kernel_rfl) (by kernel_rfl) (fun _ _ _ h => h) (Or.inl ⟨by rfl, ?_⟩) (by assumption) ?_
          rotate_left
          · ((intro w hSw; have q_ := el.out _ (But.down hb1.out hgw.out hSw.out); go_simp) <;> with_reducible rfl)
          try simp only [Act.put, List.setIfInBounds_toArray, List.set_cons_zero, List.set_cons_succ]
          refine wpAnyH_ready (rs := [1, 7]) (by kernel_rfl) (by simp) ?_
          refine AllReadyH.cons rfl (fun K hK => ?_) (AllReadyH.cons rfl (fun K hK => ?_) (AllReadyH.nil))
          · obtain ⟨y1, z1⟩ := ro_cf kv.out 0 _ rfl
            go_simp
            refine hK.out _ _ (hHeld) (fun hHeld => ?_)
            clear hK K
            clear y1 z1
            try simp only [Act.put, List.setIfInBounds_toArray, List.set_cons_zero, List.set_cons_succ]
            refine wpAnyH_ready (rs := [7]) (by kernel_rfl) (by simp) ?_
            refine AllReadyH.cons rfl (fun K hK => ?_) (AllReadyH.nil)
            go_simp
            have ol := hide ((Ow.lit u0 2 [.int .i64 x] (by simp [maxLen])).rd)
            replace kv := hide (kv.out.alloc (.cells #[.int .i64 x] 2))
            replace o0 := hide (o0.out.alloc (.cells #[.int .i64 x] 2))
            replace o1 := hide (o1.out.alloc (.cells #[.int .i64 x] 2))
            refine hK.out _ _ (hide (hHeld.out.alloc (.cells #[.int .i64 x] 2))) (fun hHeld => ?_)
            clear hK K
            generalize u0.heap.size = gs at *
            generalize u0.alloc (.cells #[.int .i64 x] 2) = v2 at *
            try simp only [Act.put, List.setIfInBounds_toArray, List.set_cons_zero, List.set_cons_succ]
            refine wpAnyH_ready (rs := [8]) (by kernel_rfl) (by simp) ?_
            refine AllReadyH.cons rfl (fun K hK => ?_) (AllReadyH.nil)
            refine step_apA elI64R o0.out (Below.refl w1.heap.size v2) (Nat.le_refl _) ol.out (.tmp 32) (.tmp 38) rfl rfl rfl rfl (fun h => by cases h) one1.out apm.out apb.out (fun A0' c0' v3 ho hb' hg => ?_)
            have dx := o1.out.ty.dj o0.out.ty (by decide)
            replace o1 := hide (own_grown o1.out hg dx)
            clear dx
            replace kv := hide (ro_lowN kv.out hgv.out hb')
            clear hg
            replace o0 := hide ho
            refine hK.out _ _ (hide (hHeld.out.nextB hb')) (fun hHeld => ?_)
            clear hK K
            clear ho hb' ol
            try simp only [Act.put, List.setIfInBounds_toArray, List.set_cons_zero, List.set_cons_succ]
            refine wpAnyH_takeD (i := 9) (d := (some 40)) (v := ?_) rfl rfl (by kernel_rfl) (by kernel_rfl) (by kernel_rfl) (fun _ _ _ h => h) (Or.inl ⟨by rfl, ?_⟩) (by assumption) ?_
            rotate_left
            · ((intro w hSw; go_simp) <;> with_reducible rfl)
            try simp only [Act.put, List.setIfInBounds_toArray, List.set_cons_zero, List.set_cons_succ]
            refine wpAnyH_ready (rs := [10]) (by kernel_rfl) (by simp) ?_
            refine AllReadyH.cons rfl (fun K hK => ?_) (AllReadyH.nil)
            obtain ⟨y1, z1⟩ := ro_cf kv.out 0 _ rfl
            go_simp
            refine hK.out _ _ (hide (hHeld.out.set _)) (fun hHeld => ?_)
            clear hK K
            clear y1 z1
            replace o0 := hide (o0.out.butT kv.out (by decide) ((But.refl gv v3).set (o := 0) (.slice A0' (n0 + 1) c0')))
            replace o1 := hide (o1.out.butT kv.out (by decide) ((But.refl gv v3).set (o := 0) (.slice A0' (n0 + 1) c0')))
            replace kv := hide (show Ro (v3.setCell ⟨gv, 0, none⟩ (.slice A0' (n0 + 1) c0')) gv #[.slice A0' (n0 + 1) c0', .slice A1 n1 c1, .slice none 0 0, .slice none 0 0, .slice none 0 0, .slice none 0 0, .slice none 0 0] 28 from by have := ro_set kv.out 0 (.slice A0' (n0 + 1) c0'); simpa using this)
            generalize v3.setCell ⟨gv, 0, none⟩ (.slice A0' (n0 + 1) c0') = v4 at *
            try simp only [Act.put, List.setIfInBounds_toArray, List.set_cons_zero, List.set_cons_succ]
            refine wpAnyH_done (by kernel_rfl) ?_ _
            go_wp2_with fail
            go_meet
            exact ⟨_, _, kv, o0, o1, hHeld⟩
          · go_simp
            have ol := hide ((Ow.lit u0 2 [.int .i64 x] (by simp [maxLen])).rd)
            replace kv := hide (kv.out.alloc (.cells #[.int .i64 x] 2))
            replace o0 := hide (o0.out.alloc (.cells #[.int .i64 x] 2))
            replace o1 := hide (o1.out.alloc (.cells #[.int .i64 x] 2))
            refine hK.out _ _ (hide (hHeld.out.alloc (.cells #[.int .i64 x] 2))) (fun hHeld => ?_)
            clear hK K
            generalize u0.heap.size = gs at *
            generalize u0.alloc (.cells #[.int .i64 x] 2) = v1 at *
            try simp only [Act.put, List.setIfInBounds_toArray, List.set_cons_zero, List.set_cons_succ]
            refine wpAnyH_ready (rs := [1]) (by kernel_rfl) (by simp) ?_
            refine AllReadyH.cons rfl (fun K hK => ?_) (AllReadyH.nil)
            obtain ⟨y1, z1⟩ := ro_cf kv.out 0 _ rfl
            go_simp
            refine hK.out _ _ (hHeld) (fun hHeld => ?_)
            clear hK K
            clear y1 z1
            try simp only [Act.put, List.setIfInBounds_toArray, List.set_cons_zero, List.set_cons_succ]
            refine wpAnyH_ready (rs := [8]) (by kernel_rfl) (by simp) ?_
            refine AllReadyH.cons rfl (fun K hK => ?_) (AllReadyH.nil)
            refine step_apA elI64R o0.out (Below.refl w1.heap.size v1) (Nat.le_refl _) ol.out (.tmp 32) (.tmp 38) rfl rfl rfl rfl (fun h => by cases h) one1.out apm.out apb.out (fun A0' c0' v3 ho hb' hg => ?_)
            have dx := o1.out.ty.dj o0.out.ty (by decide)
            replace o1 := hide (own_grown o1.out hg dx)
            clear dx
            replace kv := hide (ro_lowN kv.out hgv.out hb')
            clear hg
            replace o0 := hide ho
            refine hK.out _ _ (hide (hHeld.out.nextB hb')) (fun hHeld => ?_)
            clear hK K
            clear ho hb' ol
            try simp only [Act.put, List.setIfInBounds_toArray, List.set_cons_zero, List.set_cons_succ]
            refine wpAnyH_takeD (i := 9) (d := (some 40)) (v := ?_) rfl rfl (by kernel_rfl) (by kernel_rfl) (by kernel_rfl) (fun _ _ _ h => h) (Or.inl ⟨by rfl, ?_⟩) (by assumption) ?_
            rotate_left
            · ((intro w hSw; go_simp) <;> with_reducible rfl)
            try simp only [Act.put, List.setIfInBounds_toArray, List.set_cons_zero, List.set_cons_succ]
            refine wpAnyH_ready (rs := [10]) (by kernel_rfl) (by simp) ?_
            refine AllReadyH.cons rfl (fun K hK => ?_) (AllReadyH.nil)
            obtain ⟨y1, z1⟩ := ro_cf kv.out 0 _ rfl
            go_simp
            refine hK.out _ _ (hide (hHeld.out.set _)) (fun hHeld => ?_)
            clear hK K
            clear y1 z1
            replace o0 := hide (o0.out.butT kv.out (by decide) ((But.refl gv v3).set (o := 0) (.slice A0' (n0 + 1) c0')))
            replace o1 := hide (o1.out.butT kv.out (by decide) ((But.refl gv v3).set (o := 0) (.slice A0' (n0 + 1) c0')))
            replace kv := hide (show Ro (v3.setCell ⟨gv, 0, none⟩ (.slice A0' (n0 + 1) c0')) gv #[.slice A0' (n0 + 1) c0', .slice A1 n1 c1, .slice none 0 0, .slice none 0 0, .slice none 0 0, .slice none 0 0, .slice none 0 0] 28 from by have := ro_set kv.out 0 (.slice A0' (n0 + 1) c0'); simpa using this)
            generalize v3.setCell ⟨gv, 0, none⟩ (.slice A0' (n0 + 1) c0') = v4 at *
            try simp only [Act.put, List.setIfInBounds_toArray, List.set_cons_zero, List.set_cons_succ]
            refine wpAnyH_done (by kernel_rfl) ?_ _
            go_wp2_with fail
            go_meet
            exact ⟨_, _, kv, o0, o1, hHeld⟩
        case rest =>
          obtain ⟨A0', c0', kv', o0', o1', bt'⟩ := hcut
          rename World => wb
          clear kv o0 o1 bt
          have kv := kv'
          clear kv'
          have o0 := o0'
          clear o0'
          have o1 := o1'
          clear o1'
          have bt := bt'
          clear bt'
          replace apm := hide (show n1 + 1 ≤ maxLen by simp [maxLen]; omega)
          replace apb := hide (show (n1 + 1) * 1 ≤ 140737488355328 by omega)
          replace one1 := hide (oneCells .u8 [((other yn kn : Nat) : Int)])
          go_upto_region 8 with fail
          replace kv := hide kv.out.drew
          replace o0 := hide o0.out.drew
          replace o1 := hide o1.out.drew
          refine wp_region_held_drew (S := fun w' => Hid (But gv w1 w')) (by kernel_rfl) (hide bt.out.drew) (fun hHeld => ?_)
          generalize wb.drew = u0 at *
          refine wpAnyH_takeD (i := 0) (d := (some 41)) (v := ?_) rfl rfl (by kernel_rfl) (by kernel_rfl) (by kernel_rfl) (fun _ _ _ h => h) (Or.inl ⟨by rfl, ?_⟩) (by assumption) ?_
          rotate_left
          · ((intro w hSw; go_simp) <;> with_reducible rfl)
          try simp only [Act.put, List.setIfInBounds_toArray, List.set_cons_zero, List.set_cons_succ]
          refine wpAnyH_takeD (i := 2) (d := (some 43)) (v := ?_) rfl rfl (by kernel_rfl) (by kernel_rfl) (by kernel_rfl) (fun _ _ _ h => h) (Or.inl ⟨by rfl, ?_⟩) (by assumption) ?_
          rotate_left
          · ((intro w hSw; go_simp) <;> with_reducible rfl)
          try simp only [Act.put, List.setIfInBounds_toArray, List.set_cons_zero, List.set_cons_succ]
          refine wpAnyH_takeD (i := 3) (d := (some 44)) (v := ?_) rfl rfl (by kernel_rfl) (by kernel_rfl) (by kernel_rfl) (fun _ _ _ h => h) (Or.inl ⟨by rfl, ?_⟩) (by assumption) ?_
          rotate_left
          · ((intro w hSw; obtain ⟨q_, _⟩ := ro_cf (ro_but k.out hSw.out hkv.out) 1 _ k1d.out; go_simp) <;> with_reducible rfl)
          try simp only [Act.put, List.setIfInBounds_toArray, List.set_cons_zero, List.set_cons_succ]
          refine wpAnyH_takeD (i := 4) (d := (some 45)) (v := ?_) rfl rfl (by kernel_rfl) (by kernel_rfl) (by kernel_rfl) (fun _ _ _ h => h) (Or.inl ⟨by rfl, ?_⟩) (by assumption) ?_
          rotate_left
          · ((intro w hSw; go_simp) <;> with_reducible rfl)
          try simp only [Act.put, List.setIfInBounds_toArray, List.set_cons_zero, List.set_cons_succ]
          refine wpAnyH_takeD (i := 5) (d := (some 46)) (v := ?_) rfl rfl (by kernel_rfl) (by kernel_rfl) (by kernel_rfl) (fun _ _ _ h => h) (Or.inl ⟨by rfl, ?_⟩) (by assumption) ?_
          rotate_left
          · ((intro w hSw; go_simp) <;> with_reducible rfl)
          try simp only [Act.put, List.setIfInBounds_toArray, List.set_cons_zero, List.set_cons_succ]
          refine wpAnyH_takeD (i := 6) (d := (some 47)) (v := ?_) rfl rfl (by kernel_rfl) (by kernel_rfl) (by kernel_rfl) (fun _ _ _ h => h) (Or.inl ⟨by rfl, ?_⟩) (by assumption) ?_
          rotate_left
          · ((intro w hSw; have q_ := el1.out _ (But.down hb1.out hgw.out hSw.out); go_simp) <;> with_reducible rfl)
          try simp only [Act.put, List.setIfInBounds_toArray, List.set_cons_zero, List.set_cons_succ]
          refine wpAnyH_takeD (i := 7) (d := (some 48)) (v := ?_) rfl rfl (by kernel_rfl) (by kernel_rfl) (by kernel_rfl) (fun _ _ _ h => h) (Or.inl ⟨by rfl, ?_⟩) (by assumption) ?_
          rotate_left
          · ((intro w hSw; go_simp) <;> with_reducible rfl)
          try simp only [Act.put, List.setIfInBounds_toArray, List.set_cons_zero, List.set_cons_succ]
          refine wpAnyH_takeD (i := 8) (d := (some 49)) (v := ?_) rfl rfl (by kernel_rfl) (by kernel_rfl) (by kernel_rfl) (fun _ _ _ h => h) (Or.inl ⟨by rfl, ?_⟩) (by assumption) ?_
          rotate_left
          · ((intro w hSw; go_simp) <;> with_reducible rfl)
          try simp only [Act.put, List.setIfInBounds_toArray, List.set_cons_zero, List.set_cons_succ]
          refine wpAnyH_ready (rs := [1, 9]) (by kernel_rfl) (by simp) ?_
          refine AllReadyH.cons rfl (fun K hK => ?_) (AllReadyH.cons rfl (fun K hK => ?_) (AllReadyH.nil))
          · obtain ⟨y1, z1⟩ := ro_cf kv.out 1 _ rfl
            go_simp
            refine hK.out _ _ (hHeld) (fun hHeld => ?_)
            clear hK K
            clear y1 z1
            try simp only [Act.put, List.setIfInBounds_toArray, List.set_cons_zero, List.set_cons_succ]
            refine wpAnyH_ready (rs := [9]) (by kernel_rfl) (by simp) ?_
            refine AllReadyH.cons rfl (fun K hK => ?_) (AllReadyH.nil)
            go_simp
            refine (OT.out yn kn _).mono ?_
            rintro e v9 ⟨rfl, rfl⟩
            refine hK.out _ _ (hHeld) (fun hHeld => ?_)
            clear hK K
            try simp only [Act.put, List.setIfInBounds_toArray, List.set_cons_zero, List.set_cons_succ]
            refine wpAnyH_takeD (i := 10) (d := (some 51)) (v := ?_) rfl rfl (by kernel_rfl) (by kernel_rfl) (by kernel_rfl) (fun _ _ _ h => h) (Or.inl ⟨by rfl, ?_⟩) (by assumption) ?_
            rotate_left
            · ((intro w hSw; go_simp) <;> with_reducible rfl)
            try simp only [Act.put, List.setIfInBounds_toArray, List.set_cons_zero, List.set_cons_succ]
            refine wpAnyH_ready (rs := [11]) (by kernel_rfl) (by simp) ?_
            refine AllReadyH.cons rfl (fun K hK => ?_) (AllReadyH.nil)
            go_simp
            have ol := hide ((Ow.lit u0 5 [.int .u8 ((other yn kn : Nat) : Int)] (by simp [maxLen])).rd)
            replace kv := hide (kv.out.alloc (.cells #[.int .u8 ((other yn kn : Nat) : Int)] 5))
            replace o0 := hide (o0.out.alloc (.cells #[.int .u8 ((other yn kn : Nat) : Int)] 5))
            replace o1 := hide (o1.out.alloc (.cells #[.int .u8 ((other yn kn : Nat) : Int)] 5))
            refine hK.out _ _ (hide (hHeld.out.alloc (.cells #[.int .u8 ((other yn kn : Nat) : Int)] 5))) (fun hHeld => ?_)
            clear hK K
            generalize u0.heap.size = gs at *
            generalize u0.alloc (.cells #[.int .u8 ((other yn kn : Nat) : Int)] 5) = v3 at *
            try simp only [Act.put, List.setIfInBounds_toArray, List.set_cons_zero, List.set_cons_succ]
            refine wpAnyH_ready (rs := [12]) (by kernel_rfl) (by simp) ?_
            refine AllReadyH.cons rfl (fun K hK => ?_) (AllReadyH.nil)
            refine step_apA elU8 o1.out (Below.refl w1.heap.size v3) (Nat.le_refl _) ol.out (.tmp 42) (.tmp 52) rfl rfl rfl rfl (fun h => by cases h) one1.out apm.out apb.out (fun A1' c1' v4 ho hb' hg => ?_)
            have dx := o0.out.ty.dj o1.out.ty (by decide)
            replace o0 := hide (own_grown o0.out hg dx)
            clear dx
            replace kv := hide (ro_lowN kv.out hgv.out hb')
            clear hg
            replace o1 := hide ho
            refine hK.out _ _ (hide (hHeld.out.nextB hb')) (fun hHeld => ?_)
            clear hK K
            clear ho hb' ol
            try simp only [Act.put, List.setIfInBounds_toArray, List.set_cons_zero, List.set_cons_succ]
            refine wpAnyH_takeD (i := 13) (d := (some 54)) (v := ?_) rfl rfl (by kernel_rfl) (by kernel_rfl) (by kernel_rfl) (fun _ _ _ h => h) (Or.inl ⟨by rfl, ?_⟩) (by assumption) ?_
            rotate_left
            · ((intro w hSw; go_simp) <;> with_reducible rfl)
            try simp only [Act.put, List.setIfInBounds_toArray, List.set_cons_zero, List.set_cons_succ]
            refine wpAnyH_ready (rs := [14]) (by kernel_rfl) (by simp) ?_
            refine AllReadyH.cons rfl (fun K hK => ?_) (AllReadyH.nil)
            obtain ⟨y1, z1⟩ := ro_cf kv.out 1 _ rfl
            go_simp
            refine hK.out _ _ (hide (hHeld.out.set _)) (fun hHeld => ?_)
            clear hK K
            clear y1 z1
            replace o0 := hide (o0.out.butT kv.out (by decide) ((But.refl gv v4).set (o := 1) (.slice A1' (n1 + 1) c1')))
            replace o1 := hide (o1.out.butT kv.out (by decide) ((But.refl gv v4).set (o := 1) (.slice A1' (n1 + 1) c1')))
            replace kv := hide (show Ro (v4.setCell ⟨gv, 1, none⟩ (.slice A1' (n1 + 1) c1')) gv #[.slice A0' (n0 + 1) c0', .slice A1' (n1 + 1) c1', .slice none 0 0, .slice none 0 0, .slice none 0 0, .slice none 0 0, .slice none 0 0] 28 from by have := ro_set kv.out 1 (.slice A1' (n1 + 1) c1'); simpa using this)
            generalize v4.setCell ⟨gv, 1, none⟩ (.slice A1' (n1 + 1) c1') = v5 at *
            try simp only [Act.put, List.setIfInBounds_toArray, List.set_cons_zero, List.set_cons_succ]
            refine wpAnyH_done (by kernel_rfl) ?_ _
            have bt := hHeld
            clear hHeld
            go_wp2_with fail
            go_roundw
            case rel => exact ⟨m + 1, n0 + 1, n1 + 1, c0', c1', A0', A1', by omega, by go_num, kv, by rw [ht.out, List.map_append]; exact o0, by rw [hx.out, List.map_append]; exact o1, bt⟩
            case measure => simp [intOf]; omega
          · go_simp
            refine (OT.out yn kn _).mono ?_
            rintro e v9 ⟨rfl, rfl⟩
            refine hK.out _ _ (hHeld) (fun hHeld => ?_)
            clear hK K
            try simp only [Act.put, List.setIfInBounds_toArray, List.set_cons_zero, List.set_cons_succ]
            refine wpAnyH_takeD (i := 10) (d := (some 51)) (v := ?_) rfl rfl (by kernel_rfl) (by kernel_rfl) (by kernel_rfl) (fun _ _ _ h => h) (Or.inl ⟨by rfl, ?_⟩) (by assumption) ?_
            rotate_left
            · ((intro w hSw; go_simp) <;> with_reducible rfl)
            try simp only [Act.put, List.setIfInBounds_toArray, List.set_cons_zero, List.set_cons_succ]
            refine wpAnyH_ready (rs := [1, 11]) (by kernel_rfl) (by simp) ?_
            refine AllReadyH.cons rfl (fun K hK => ?_) (AllReadyH.cons rfl (fun K hK => ?_) (AllReadyH.nil))
            · obtain ⟨y1, z1⟩ := ro_cf kv.out 1 _ rfl
              go_simp
              refine hK.out _ _ (hHeld) (fun hHeld => ?_)
              clear hK K
              clear y1 z1
              try simp only [Act.put, List.setIfInBounds_toArray, List.set_cons_zero, List.set_cons_succ]
              refine wpAnyH_ready (rs := [11]) (by kernel_rfl) (by simp) ?_
              refine AllReadyH.cons rfl (fun K hK => ?_) (AllReadyH.nil)
              go_simp
              have ol := hide ((Ow.lit u0 5 [.int .u8 ((other yn kn : Nat) : Int)] (by simp [maxLen])).rd)
              replace kv := hide (kv.out.alloc (.cells #[.int .u8 ((other yn kn : Nat) : Int)] 5))
              replace o0 := hide (o0.out.alloc (.cells #[.int .u8 ((other yn kn : Nat) : Int)] 5))
              replace o1 := hide (o1.out.alloc (.cells #[.int .u8 ((other yn kn : Nat) : Int)] 5))
              refine hK.out _ _ (hide (hHeld.out.alloc (.cells #[.int .u8 ((other yn kn : Nat) : Int)] 5))) (fun hHeld => ?_)
              clear hK K
              generalize u0.heap.size = gs at *
              generalize u0.alloc (.cells #[.int .u8 ((other yn kn : Nat) : Int)] 5) = v3 at *
              try simp only [Act.put, List.setIfInBounds_toArray, List.set_cons_zero, List.set_cons_succ]
              refine wpAnyH_ready (rs := [12]) (by kernel_rfl) (by simp) ?_
              refine AllReadyH.cons rfl (fun K hK => ?_) (AllReadyH.nil)
              refine step_apA elU8 o1.out (Below.refl w1.heap.size v3) (Nat.le_refl _) ol.out (.tmp 42) (.tmp 52) rfl rfl rfl rfl (fun h => by cases h) one1.out apm.out apb.out (fun A1' c1' v4 ho hb' hg => ?_)
              have dx := o0.out.ty.dj o1.out.ty (by decide)
              replace o0 := hide (own_grown o0.out hg dx)
              clear dx
              replace kv := hide (ro_lowN kv.out hgv.out hb')
              clear hg
              replace o1 := hide ho
              refine hK.out _ _ (hide (hHeld.out.nextB hb')) (fun hHeld => ?_)
              clear hK K
              clear ho hb' ol
              try simp only [Act.put, List.setIfInBounds_toArray, List.set_cons_zero, List.set_cons_succ]
              refine wpAnyH_takeD (i := 13) (d := (some 54)) (v := ?_) rfl rfl (by kernel_rfl) (by kernel_rfl) (by kernel_rfl) (fun _ _ _ h => h) (Or.inl ⟨by rfl, ?_⟩) (by assumption) ?_
              rotate_left
              · ((intro w hSw; go_simp) <;> with_reducible rfl)
              try simp only [Act.put, List.setIfInBounds_toArray, List.set_cons_zero, List.set_cons_succ]
              refine wpAnyH_ready (rs := [14]) (by kernel_rfl) (by simp) ?_
              refine AllReadyH.cons rfl (fun K hK => ?_) (AllReadyH.nil)
              obtain ⟨y1, z1⟩ := ro_cf kv.out 1 _ rfl
              go_simp
              refine hK.out _ _ (hide (hHeld.out.set _)) (fun hHeld => ?_)
              clear hK K
              clear y1 z1
              replace o0 := hide (o0.out.butT kv.out (by decide) ((But.refl gv v4).set (o := 1) (.slice A1' (n1 + 1) c1')))
              replace o1 := hide (o1.out.butT kv.out (by decide) ((But.refl gv v4).set (o := 1) (.slice A1' (n1 + 1) c1')))
              replace kv := hide (show Ro (v4.setCell ⟨gv, 1, none⟩ (.slice A1' (n1 + 1) c1')) gv #[.slice A0' (n0 + 1) c0', .slice A1' (n1 + 1) c1', .slice none 0 0, .slice none 0 0, .slice none 0 0, .slice none 0 0, .slice none 0 0] 28 from by have := ro_set kv.out 1 (.slice A1' (n1 + 1) c1'); simpa using this)
              generalize v4.setCell ⟨gv, 1, none⟩ (.slice A1' (n1 + 1) c1') = v5 at *
              try simp only [Act.put, List.setIfInBounds_toArray, List.set_cons_zero, List.set_cons_succ]
              refine wpAnyH_done (by kernel_rfl) ?_ _
              have bt := hHeld
              clear hHeld
              go_wp2_with fail
              go_roundw
              case rel => exact ⟨m + 1, n0 + 1, n1 + 1, c0', c1', A0', A1', by omega, by go_num, kv, by rw [ht.out, List.map_append]; exact o0, by rw [hx.out, List.map_append]; exact o1, bt⟩
              case measure => simp [intOf]; omega
            · go_simp
              have ol := hide ((Ow.lit u0 5 [.int .u8 ((other yn kn : Nat) : Int)] (by simp [maxLen])).rd)
              replace kv := hide (kv.out.alloc (.cells #[.int .u8 ((other yn kn : Nat) : Int)] 5))
              replace o0 := hide (o0.out.alloc (.cells #[.int .u8 ((other yn kn : Nat) : Int)] 5))
              replace o1 := hide (o1.out.alloc (.cells #[.int .u8 ((other yn kn : Nat) : Int)] 5))
              refine hK.out _ _ (hide (hHeld.out.alloc (.cells #[.int .u8 ((other yn kn : Nat) : Int)] 5))) (fun hHeld => ?_)
              clear hK K
              generalize u0.heap.size = gs at *
              generalize u0.alloc (.cells #[.int .u8 ((other yn kn : Nat) : Int)] 5) = v2 at *
              try simp only [Act.put, List.setIfInBounds_toArray, List.set_cons_zero, List.set_cons_succ]
              refine wpAnyH_ready (rs := [1]) (by kernel_rfl) (by simp) ?_
              refine AllReadyH.cons rfl (fun K hK => ?_) (AllReadyH.nil)
              obtain ⟨y1, z1⟩ := ro_cf kv.out 1 _ rfl
              go_simp
              refine hK.out _ _ (hHeld) (fun hHeld => ?_)
              clear hK K
              clear y1 z1
              try simp only [Act.put, List.setIfInBounds_toArray, List.set_cons_zero, List.set_cons_succ]
              refine wpAnyH_ready (rs := [12]) (by kernel_rfl) (by simp) ?_
              refine AllReadyH.cons rfl (fun K hK => ?_) (AllReadyH.nil)
              refine step_apA elU8 o1.out (Below.refl w1.heap.size v2) (Nat.le_refl _) ol.out (.tmp 42) (.tmp 52) rfl rfl rfl rfl (fun h => by cases h) one1.out apm.out apb.out (fun A1' c1' v4 ho hb' hg => ?_)
              have dx := o0.out.ty.dj o1.out.ty (by decide)
              replace o0 := hide (own_grown o0.out hg dx)
              clear dx
              replace kv := hide (ro_lowN kv.out hgv.out hb')
              clear hg
              replace o1 := hide ho
              refine hK.out _ _ (hide (hHeld.out.nextB hb')) (fun hHeld => ?_)
              clear hK K
              clear ho hb' ol
              try simp only [Act.put, List.setIfInBounds_toArray, List.set_cons_zero, List.set_cons_succ]
              refine wpAnyH_takeD (i := 13) (d := (some 54)) (v := ?_) rfl rfl (by kernel_rfl) (by kernel_rfl) (by kernel_rfl) (fun _ _ _ h => h) (Or.inl ⟨by rfl, ?_⟩) (by assumption) ?_
              rotate_left
              · ((intro w hSw; go_simp) <;> with_reducible rfl)
              try simp only [Act.put, List.setIfInBounds_toArray, List.set_cons_zero, List.set_cons_succ]
              refine wpAnyH_ready (rs := [14]) (by kernel_rfl) (by simp) ?_
              refine AllReadyH.cons rfl (fun K hK => ?_) (AllReadyH.nil)
              obtain ⟨y1, z1⟩ := ro_cf kv.out 1 _ rfl
              go_simp
              refine hK.out _ _ (hide (hHeld.out.set _)) (fun hHeld => ?_)
              clear hK K
              clear y1 z1
              replace o0 := hide (o0.out.butT kv.out (by decide) ((But.refl gv v4).set (o := 1) (.slice A1' (n1 + 1) c1')))
              replace o1 := hide (o1.out.butT kv.out (by decide) ((But.refl gv v4).set (o := 1) (.slice A1' (n1 + 1) c1')))
              replace kv := hide (show Ro (v4.setCell ⟨gv, 1, none⟩ (.slice A1' (n1 + 1) c1')) gv #[.slice A0' (n0 + 1) c0', .slice A1' (n1 + 1) c1', .slice none 0 0, .slice none 0 0, .slice none 0 0, .slice none 0 0, .slice none 0 0] 28 from by have := ro_set kv.out 1 (.slice A1' (n1 + 1) c1'); simpa using this)
              generalize v4.setCell ⟨gv, 1, none⟩ (.slice A1' (n1 + 1) c1') = v5 at *
              try simp only [Act.put, List.setIfInBounds_toArray, List.set_cons_zero, List.set_cons_succ]
              refine wpAnyH_done (by kernel_rfl) ?_ _
              have bt := hHeld
              clear hHeld
              go_wp2_with fail
              go_roundw
              case rel => exact ⟨m + 1, n0 + 1, n1 + 1, c0', c1', A0', A1', by omega, by go_num, kv, by rw [ht.out, List.map_append]; exact o0, by rw [hx.out, List.map_append]; exact o1, bt⟩
              case measure => simp [intOf]; omega
      · have hin' : in32 x = false := by simpa using hin
        rw [if_neg hin] at ht hx
        have o0' := hide (show Ow wr w1.heap.size 2 A0 n0 c0 ((tN b (m + 1)).map (Value.int .i64)) by rw [ht.out]; exact o0.out)
        have o1' := hide (show Ow wr w1.heap.size 5 A1 n1 c1 ((xN b kn (m + 1)).map (Value.int .u8)) by rw [hx.out]; exact o1.out)
        by_cases g1 : -2147483648 ≤ x
        · have g2 : decide (x ≤ 2147483647) = false := by unfold in32 at hin'; rw [decide_eq_true g1, Bool.true_and] at hin'; exact hin'
          have g1' : decide (-2147483648 ≤ x) = true := decide_eq_true g1
          replace g1 := hide g1
          replace hin := hide hin
          replace hin' := hide hin'
          clear yb0 yb1
          go_wp2
          go_roundw
          case rel => exact ⟨m + 1, n0, n1, c0, c1, A0, A1, by omega, by go_num, kv, o0', o1', bt⟩
          case measure => simp [intOf]; omega
        · have g1' : decide (-2147483648 ≤ x) = false := decide_eq_false g1
          replace g1 := hide g1
          replace hin := hide hin
          replace hin' := hide hin'
          clear yb0 yb1
          go_wp2
          go_roundw
          case rel => exact ⟨m + 1, n0, n1, c0, c1, A0, A1, by omega, by go_num, kv, o0', o1', bt⟩
          case measure => simp [intOf]; omega
    · obtain rfl : m = S.ti.n := by omega
      rw [fT.out] at o0
      rw [fX.out] at o1
      clear hm hlt gl fT fX ipos
      replace k := hide (ro_but k.out bt.out hkv.out)
      replace k2 := hide (ro_but k2.out bt.out hk2v.out)
      replace o0 := hide (o0.out.mono hb1.out.size)
      replace o1 := hide (o1.out.mono hb1.out.size)
      replace hb1 := hide (But.down hb1.out hgw.out bt.out)
      clear kv1 bt
      generalize wr = w2 at *
      replace hgv := hide kv.out.lt
      go_wp2
      go_loopw [6] (fun i wr => ∃ (m nT nS nU cT cS cU : Nat) (AT AS AU : Option Addr), m ≤ S.ty.n ∧ i = .int .i64 (m : Nat) ∧ Hid (Ro wr gv #[.slice A0 n0 c0, .slice A1 n1 c1, .slice AT nT cT, .slice none 0 0, .slice none 0 0, .slice AS nS cS, .slice AU nU cU] 28) ∧ Hid (Ok 3 wr w2.heap.size 38 AT nT cT (tcs ((swp b.ty kn (0, false, 0)).take m))) ∧ Hid (Ow wr w2.heap.size 4 AS nS cS (bls ((swp b.sd kn false).take m))) ∧ Hid (Ow wr w2.heap.size 4 AU nU cU (bls ((swp b.ut kn false).take m))) ∧ Hid (Dj AS AU) ∧ Hid (But gv w2 wr)) (fun i _ => S.ty.n - (intOf i).toNat)
      case atStart => exact ⟨0, 0, 0, 0, 0, 0, 0, none, none, none, by omega, rfl, kv, hide (Ok.nil (Nat.le_refl _) _ _), hide (Ow.nil (Nat.le_refl _) _), hide (Ow.nil (Nat.le_refl _) _), hide (Dj.none_ _), hide (But.refl gv w2)⟩
      case round =>
        obtain ⟨m, nT, nS, nU, cT, cS, cU, AT, AS, AU, hm, rfl, kv', oT, oS, oU, dj, bt⟩ := hrel
        have kv1 := hide kv.out
        replace kv := kv'
        clear kv' y0
        obtain ⟨y0, _⟩ := ro_cf (ro_but k.out bt.out hkv.out) 2 _ k2c.out
        by_cases hlt : m < S.ty.n
        · obtain ⟨hoi, t3, ht3, hst⟩ := gT.out m hlt
          obtain ⟨x0, x1, x2⟩ := t3
          have hbr := But.down hb1.out hgw.out bt.out
          obtain ⟨ad, _, e0, _, _⟩ := (hR.out _ hbr).ty.tt hoi
          have k2d := hide (show cs[2]? = some (.slice (some ad) S.ty.n S.ty.c) by rw [← e0]; exact k2c.out)
          have el := hide (show ∀ W, Below w.heap.size w W → W.cell? (ad.add (other m kn * 3)) = some (.int .i32 x0) ∧ W.cell? ⟨(ad.add (other m kn * 3)).block, (ad.add (other m kn * 3)).off + 1, none⟩ = some (.bool x1) ∧ W.cell? ⟨(ad.add (other m kn * 3)).block, (ad.add (other m kn * 3)).off + 2, none⟩ = some (.int .u8 x2) from fun W hB => by
            obtain ⟨ad', t', e', ht', c0_, c1_, c2_⟩ := (hR.out W hB).ty.tt hoi
            rw [e0] at e'
            cases e'
            rw [ht3] at ht'
            cases ht'
            exact ⟨c0_, c1_, c2_⟩)
          have OT2 := hide (fun W => OT.out m kn W)
          clear ht3 hbr
          obtain ⟨oi, hoi'⟩ : ∃ oi, other m kn = oi := ⟨_, rfl⟩
          rw [hoi'] at hoi el OT2
          have d1 : (m : Int) < (S.ty.n : Int) := by omega
          have d3 : (oi : Int) < (S.ty.n : Int) := by omega
          have i1 : IntKind.i64.wrap ((m : Int) + 1) = ((m + 1 : Nat) : Int) := by rw [IntKind.wrap_i64]; omega
          have hlT : nT ≤ m := by have := oT.out.len; rw [tcs_len] at this; simp at this; omega
          have apm := hide (show nT + 1 ≤ maxLen by simp [maxLen]; omega)
          have apb := hide (show (nT + 1) * 8 ≤ 140737488355328 by omega)
          have one1 := hide (show ∀ u ∈ [Value.int .i32 x0, .bool x1, .int .u8 x2], u.oneCell' = true by simp [Value.oneCell'])
          replace hst := hide hst
          go_upto_region 12 with fail
          clear y0 e0
          go_cut [] (fun wz => ∃ (AT' : Option Addr) (cT' : Nat), Hid (Ro wz gv #[.slice A0 n0 c0, .slice A1 n1 c1, .slice AT' (nT + 1) cT', .slice none 0 0, .slice none 0 0, .slice AS nS cS, .slice AU nU cU] 28) ∧ Hid (Ok 3 wz w2.heap.size 38 AT' (nT + 1) cT' (tcs ((swp b.ty kn (0, false, 0)).take m) ++ [.int .i32 x0, .bool x1, .int .u8 x2])) ∧ Hid (Ow wz w2.heap.size 4 AS nS cS (bls ((swp b.sd kn false).take m))) ∧ Hid (Ow wz w2.heap.size 4 AU nU cU (bls ((swp b.ut kn false).take m))) ∧ Hid (But gv w2 wz))
          case first =>
            replace kv := hide kv.out.drew
            replace oT := hide oT.out.drew
            replace oS := hide oS.out.drew
            replace oU := hide oU.out.drew
            refine wp_region_held_drew (S := fun w' => Hid (But gv w2 w')) (by kernel_rfl) (hide bt.out.drew) (fun hHeld => ?_)
            generalize wr.drew = u0 at *
            refine wpAnyH_takeD (i := 0) (d := (some 62)) (v := ?_) rfl rfl (by kernel_rfl) (by kernel_rfl) (by kernel_rfl) (fun _ _ _ h => h) (Or.inl ⟨by rfl, ?_⟩) (by assumption) ?_
            rotate_left
            · ((intro w hSw; go_simp) <;> with_reducible rfl)
            try simp only [Act.put, List.setIfInBounds_toArray, List.set_cons_zero, List.set_cons_succ]
            refine wpAnyH_takeD (i := 2) (d := (some 64)) (v := ?_) rfl rfl (by kernel_rfl) (by kernel_rfl) (by kernel_rfl) (fun _ _ _ h => h) (Or.inl ⟨by rfl, ?_⟩) (by assumption) ?_
            rotate_left
            · ((intro w hSw; go_simp) <;> with_reducible rfl)
            try simp only [Act.put, List.setIfInBounds_toArray, List.set_cons_zero, List.set_cons_succ]
            refine wpAnyH_takeD (i := 3) (d := (some 65)) (v := ?_) rfl rfl (by kernel_rfl) (by kernel_rfl) (by kernel_rfl) (fun _ _ _ h => h) (Or.inl ⟨by rfl, ?_⟩) (by assumption) ?_
            rotate_left
            · ((intro w hSw; obtain ⟨q_, _⟩ := ro_cf (ro_but k.out hSw.out hkv.out) 2 _ k2d.out; go_simp) <;> with_reducible rfl)
            try simp only [Act.put, List.setIfInBounds_toArray, List.set_cons_zero, List.set_cons_succ]
            refine wpAnyH_takeD (i := 4) (d := (some 66)) (v := ?_) rfl rfl (by kernel_rfl) (by kernel_rfl) (by kernel_rfl) (fun _ _ _ h => h) (Or.inl ⟨by rfl, ?_⟩) (by assumption) ?_
            rotate_left
            · ((intro w hSw; go_simp) <;> with_reducible rfl)
            try simp only [Act.put, List.setIfInBounds_toArray, List.set_cons_zero, List.set_cons_succ]
            refine wpAnyH_takeD (i := 5) (d := (some 67)) (v := ?_) rfl rfl (by kernel_rfl) (by kernel_rfl) (by kernel_rfl) (fun _ _ _ h => h) (Or.inl ⟨by rfl, ?_⟩) (by assumption) ?_
            rotate_left
            · ((intro w hSw; go_simp) <;> with_reducible rfl)
            try simp only [Act.put, List.setIfInBounds_toArray, List.set_cons_zero, List.set_cons_succ]
            refine wpAnyH_ready (rs := [1, 6]) (by kernel_rfl) (by simp) ?_
            refine AllReadyH.cons rfl (fun K hK => ?_) (AllReadyH.cons rfl (fun K hK => ?_) (AllReadyH.nil))
            · obtain ⟨y1, z1⟩ := ro_cf kv.out 2 _ rfl
              go_simp
              refine hK.out _ _ (hHeld) (fun hHeld => ?_)
              clear hK K
              clear y1 z1
              try simp only [Act.put, List.setIfInBounds_toArray, List.set_cons_zero, List.set_cons_succ]
              refine wpAnyH_ready (rs := [6]) (by kernel_rfl) (by simp) ?_
              refine AllReadyH.cons rfl (fun K hK => ?_) (AllReadyH.nil)
              go_simp
              refine (OT2.out _).mono ?_
              rintro e v9 ⟨rfl, rfl⟩
              refine hK.out _ _ (hHeld) (fun hHeld => ?_)
              clear hK K
              try simp only [Act.put, List.setIfInBounds_toArray, List.set_cons_zero, List.set_cons_succ]
              refine wpAnyH_takeD (i := 7) (d := (some 69)) (v := ?_) rfl rfl (by kernel_rfl) (by kernel_rfl) (by kernel_rfl) (fun _ _ _ h => h) (Or.inl ⟨by rfl, ?_⟩) (by assumption) ?_
              rotate_left
              · ((intro w hSw; go_simp) <;> with_reducible rfl)
              try simp only [Act.put, List.setIfInBounds_toArray, List.set_cons_zero, List.set_cons_succ]
              refine wpAnyH_takeD (i := 8) (d := (some 70)) (v := ?_) rfl rfl (by kernel_rfl) (by kernel_rfl) (by kernel_rfl) (fun _ _ _ h => h) (Or.inl ⟨by rfl, ?_⟩) (by assumption) ?_
              rotate_left
              · ((intro w hSw; obtain ⟨q_, q1_, q2_⟩ := el.out _ (But.down hb1.out hgw.out hSw.out); go_simp) <;> with_reducible rfl)
              try simp only [Act.put, List.setIfInBounds_toArray, List.set_cons_zero, List.set_cons_succ]
              refine wpAnyH_ready (rs := [9]) (by kernel_rfl) (by simp) ?_
              refine AllReadyH.cons rfl (fun K hK => ?_) (AllReadyH.nil)
              go_simp
              have ol := hide ((Ok.lit 3 u0 38 [.int .i32 x0, .bool x1, .int .u8 x2] 1 rfl (by simp [maxLen])).rd)
              replace kv := hide (kv.out.alloc (.cells #[.int .i32 x0, .bool x1, .int .u8 x2] 38))
              replace oT := hide (oT.out.alloc (.cells #[.int .i32 x0, .bool x1, .int .u8 x2] 38))
              replace oS := hide (oS.out.alloc (.cells #[.int .i32 x0, .bool x1, .int .u8 x2] 38))
              replace oU := hide (oU.out.alloc (.cells #[.int .i32 x0, .bool x1, .int .u8 x2] 38))
              refine hK.out _ _ (hide (hHeld.out.alloc (.cells #[.int .i32 x0, .bool x1, .int .u8 x2] 38))) (fun hHeld => ?_)
              clear hK K
              generalize u0.heap.size = gs at *
              generalize u0.alloc (.cells #[.int .i32 x0, .bool x1, .int .u8 x2] 38) = v3 at *
              try simp only [Act.put, List.setIfInBounds_toArray, List.set_cons_zero, List.set_cons_succ]
              refine wpAnyH_ready (rs := [10]) (by kernel_rfl) (by simp) ?_
              refine AllReadyH.cons rfl (fun K hK => ?_) (AllReadyH.nil)
              refine step_apK elTT (by decide) oT.out (Below.refl w2.heap.size v3) (Nat.le_refl _) ol.out (.tmp 63) (.tmp 71) rfl rfl rfl rfl (fun h => by cases h) one1.out apm.out apb.out (fun AT' cT' v4 ho hb' hg => ?_)
              have dx := oS.out.ty.dj oT.out.ty (by decide)
              replace oS := hide (own_grown oS.out hg dx)
              clear dx
              have dx := oU.out.ty.dj oT.out.ty (by decide)
              replace oU := hide (own_grown oU.out hg dx)
              clear dx
              replace kv := hide (ro_lowN kv.out hgv.out hb')
              clear hg
              replace oT := hide ho
              refine hK.out _ _ (hide (hHeld.out.nextB hb')) (fun hHeld => ?_)
              clear hK K
              clear ho hb' ol
              try simp only [Act.put, List.setIfInBounds_toArray, List.set_cons_zero, List.set_cons_succ]
              refine wpAnyH_takeD (i := 11) (d := (some 73)) (v := ?_) rfl rfl (by kernel_rfl) (by kernel_rfl) (by kernel_rfl) (fun _ _ _ h => h) (Or.inl ⟨by rfl, ?_⟩) (by assumption) ?_
              rotate_left
              · ((intro w hSw; go_simp) <;> with_reducible rfl)
              try simp only [Act.put, List.setIfInBounds_toArray, List.set_cons_zero, List.set_cons_succ]
              refine wpAnyH_ready (rs := [12]) (by kernel_rfl) (by simp) ?_
              refine AllReadyH.cons rfl (fun K hK => ?_) (AllReadyH.nil)
              obtain ⟨y1, z1⟩ := ro_cf kv.out 2 _ rfl
              go_simp
              refine hK.out _ _ (hide (hHeld.out.set _)) (fun hHeld => ?_)
              clear hK K
              clear y1 z1
              replace oT := hide (oT.out.butT kv.out (by decide) ((But.refl gv v4).set (o := 2) (.slice AT' (nT + 1) cT')))
              replace oS := hide (oS.out.butT kv.out (by decide) ((But.refl gv v4).set (o := 2) (.slice AT' (nT + 1) cT')))
              replace oU := hide (oU.out.butT kv.out (by decide) ((But.refl gv v4).set (o := 2) (.slice AT' (nT + 1) cT')))
              replace kv := hide (show Ro (v4.setCell ⟨gv, 2, none⟩ (.slice AT' (nT + 1) cT')) gv #[.slice A0 n0 c0, .slice A1 n1 c1, .slice AT' (nT + 1) cT', .slice none 0 0, .slice none 0 0, .slice AS nS cS, .slice AU nU cU] 28 from by have := ro_set kv.out 2 (.slice AT' (nT + 1) cT'); simpa using this)
              generalize v4.setCell ⟨gv, 2, none⟩ (.slice AT' (nT + 1) cT') = v5 at *
              try simp only [Act.put, List.setIfInBounds_toArray, List.set_cons_zero, List.set_cons_succ]
              refine wpAnyH_done (by kernel_rfl) ?_ _
              go_wp2_with fail
              go_meet
              exact ⟨_, _, kv, oT, oS, oU, hHeld⟩
            · go_simp
              refine (OT2.out _).mono ?_
              rintro e v9 ⟨rfl, rfl⟩
              refine hK.out _ _ (hHeld) (fun hHeld => ?_)
              clear hK K
              try simp only [Act.put, List.setIfInBounds_toArray, List.set_cons_zero, List.set_cons_succ]
              refine wpAnyH_takeD (i := 7) (d := (some 69)) (v := ?_) rfl rfl (by kernel_rfl) (by kernel_rfl) (by kernel_rfl) (fun _ _ _ h => h) (Or.inl ⟨by rfl, ?_⟩) (by assumption) ?_
              rotate_left
              · ((intro w hSw; go_simp) <;> with_reducible rfl)
              try simp only [Act.put, List.setIfInBounds_toArray, List.set_cons_zero, List.set_cons_succ]
              refine wpAnyH_takeD (i := 8) (d := (some 70)) (v := ?_) rfl rfl (by kernel_rfl) (by kernel_rfl) (by kernel_rfl) (fun _ _ _ h => h) (Or.inl ⟨by rfl, ?_⟩) (by assumption) ?_
              rotate_left
              · ((intro w hSw; obtain ⟨q_, q1_, q2_⟩ := el.out _ (But.down hb1.out hgw.out hSw.out); go_simp) <;> with_reducible rfl)
              try simp only [Act.put, List.setIfInBounds_toArray, List.set_cons_zero, List.set_cons_succ]
              refine wpAnyH_ready (rs := [1, 9]) (by kernel_rfl) (by simp) ?_
              refine AllReadyH.cons rfl (fun K hK => ?_) (AllReadyH.cons rfl (fun K hK => ?_) (AllReadyH.nil))
              · obtain ⟨y1, z1⟩ := ro_cf kv.out 2 _ rfl
                go_simp
                refine hK.out _ _ (hHeld) (fun hHeld => ?_)
                clear hK K
                clear y1 z1
                try simp only [Act.put, List.setIfInBounds_toArray, List.set_cons_zero, List.set_cons_succ]
                refine wpAnyH_ready (rs := [9]) (by kernel_rfl) (by simp) ?_
                refine AllReadyH.cons rfl (fun K hK => ?_) (AllReadyH.nil)
                go_simp
                have ol := hide ((Ok.lit 3 u0 38 [.int .i32 x0, .bool x1, .int .u8 x2] 1 rfl (by simp [maxLen])).rd)
                replace kv := hide (kv.out.alloc (.cells #[.int .i32 x0, .bool x1, .int .u8 x2] 38))
                replace oT := hide (oT.out.alloc (.cells #[.int .i32 x0, .bool x1, .int .u8 x2] 38))
                replace oS := hide (oS.out.alloc (.cells #[.int .i32 x0, .bool x1, .int .u8 x2] 38))
                replace oU := hide (oU.out.alloc (.cells #[.int .i32 x0, .bool x1, .int .u8 x2] 38))
                refine hK.out _ _ (hide (hHeld.out.alloc (.cells #[.int .i32 x0, .bool x1, .int .u8 x2] 38))) (fun hHeld => ?_)
                clear hK K
                generalize u0.heap.size = gs at *
                generalize u0.alloc (.cells #[.int .i32 x0, .bool x1, .int .u8 x2] 38) = v3 at *
                try simp only [Act.put, List.setIfInBounds_toArray, List.set_cons_zero, List.set_cons_succ]
                refine wpAnyH_ready (rs := [10]) (by kernel_rfl) (by simp) ?_
                refine AllReadyH.cons rfl (fun K hK => ?_) (AllReadyH.nil)
                refine step_apK elTT (by decide) oT.out (Below.refl w2.heap.size v3) (Nat.le_refl _) ol.out (.tmp 63) (.tmp 71) rfl rfl rfl rfl (fun h => by cases h) one1.out apm.out apb.out (fun AT' cT' v4 ho hb' hg => ?_)
                have dx := oS.out.ty.dj oT.out.ty (by decide)
                replace oS := hide (own_grown oS.out hg dx)
                clear dx
                have dx := oU.out.ty.dj oT.out.ty (by decide)
                replace oU := hide (own_grown oU.out hg dx)
                clear dx
                replace kv := hide (ro_lowN kv.out hgv.out hb')
                clear hg
                replace oT := hide ho
                refine hK.out _ _ (hide (hHeld.out.nextB hb')) (fun hHeld => ?_)
                clear hK K
                clear ho hb' ol
                try simp only [Act.put, List.setIfInBounds_toArray, List.set_cons_zero, List.set_cons_succ]
                refine wpAnyH_takeD (i := 11) (d := (some 73)) (v := ?_) rfl rfl (by kernel_rfl) (by kernel_rfl) (by kernel_rfl) (fun _ _ _ h => h) (Or.inl ⟨by rfl, ?_⟩) (by assumption) ?_
                rotate_left
                · ((intro w hSw; go_simp) <;> with_reducible rfl)
                try simp only [Act.put, List.setIfInBounds_toArray, List.set_cons_zero, List.set_cons_succ]
                refine wpAnyH_ready (rs := [12]) (by kernel_rfl) (by simp) ?_
                refine AllReadyH.cons rfl (fun K hK => ?_) (AllReadyH.nil)
                obtain ⟨y1, z1⟩ := ro_cf kv.out 2 _ rfl
                go_simp
                refine hK.out _ _ (hide (hHeld.out.set _)) (fun hHeld => ?_)
                clear hK K
                clear y1 z1
                replace oT := hide (oT.out.butT kv.out (by decide) ((But.refl gv v4).set (o := 2) (.slice AT' (nT + 1) cT')))
                replace oS := hide (oS.out.butT kv.out (by decide) ((But.refl gv v4).set (o := 2) (.slice AT' (nT + 1) cT')))
                replace oU := hide (oU.out.butT kv.out (by decide) ((But.refl gv v4).set (o := 2) (.slice AT' (nT + 1) cT')))
                replace kv := hide (show Ro (v4.setCell ⟨gv, 2, none⟩ (.slice AT' (nT + 1) cT')) gv #[.slice A0 n0 c0, .slice A1 n1 c1, .slice AT' (nT + 1) cT', .slice none 0 0, .slice none 0 0, .slice AS nS cS, .slice AU nU cU] 28 from by have := ro_set kv.out 2 (.slice AT' (nT + 1) cT'); simpa using this)
                generalize v4.setCell ⟨gv, 2, none⟩ (.slice AT' (nT + 1) cT') = v5 at *
                try simp only [Act.put, List.setIfInBounds_toArray, List.set_cons_zero, List.set_cons_succ]
                refine wpAnyH_done (by kernel_rfl) ?_ _
                go_wp2_with fail
                go_meet
                exact ⟨_, _, kv, oT, oS, oU, hHeld⟩
              · go_simp
                have ol := hide ((Ok.lit 3 u0 38 [.int .i32 x0, .bool x1, .int .u8 x2] 1 rfl (by simp [maxLen])).rd)
                replace kv := hide (kv.out.alloc (.cells #[.int .i32 x0, .bool x1, .int .u8 x2] 38))
                replace oT := hide (oT.out.alloc (.cells #[.int .i32 x0, .bool x1, .int .u8 x2] 38))
                replace oS := hide (oS.out.alloc (.cells #[.int .i32 x0, .bool x1, .int .u8 x2] 38))
                replace oU := hide (oU.out.alloc (.cells #[.int .i32 x0, .bool x1, .int .u8 x2] 38))
                refine hK.out _ _ (hide (hHeld.out.alloc (.cells #[.int .i32 x0, .bool x1, .int .u8 x2] 38))) (fun hHeld => ?_)
                clear hK K
                generalize u0.heap.size = gs at *
                generalize u0.alloc (.cells #[.int .i32 x0, .bool x1, .int .u8 x2] 38) = v2 at *
                try simp only [Act.put, List.setIfInBounds_toArray, List.set_cons_zero, List.set_cons_succ]
                refine wpAnyH_ready (rs := [1]) (by kernel_rfl) (by simp) ?_
                refine AllReadyH.cons rfl (fun K hK => ?_) (AllReadyH.nil)
                obtain ⟨y1, z1⟩ := ro_cf kv.out 2 _ rfl
                go_simp
                refine hK.out _ _ (hHeld) (fun hHeld => ?_)
                clear hK K
                clear y1 z1
                try simp only [Act.put, List.setIfInBounds_toArray, List.set_cons_zero, List.set_cons_succ]
                refine wpAnyH_ready (rs := [10]) (by kernel_rfl) (by simp) ?_
                refine AllReadyH.cons rfl (fun K hK => ?_) (AllReadyH.nil)
                refine step_apK elTT (by decide) oT.out (Below.refl w2.heap.size v2) (Nat.le_refl _) ol.out (.tmp 63) (.tmp 71) rfl rfl rfl rfl (fun h => by cases h) one1.out apm.out apb.out (fun AT' cT' v4 ho hb' hg => ?_)
                have dx := oS.out.ty.dj oT.out.ty (by decide)
                replace oS := hide (own_grown oS.out hg dx)
                clear dx
                have dx := oU.out.ty.dj oT.out.ty (by decide)
                replace oU := hide (own_grown oU.out hg dx)
                clear dx
                replace kv := hide (ro_lowN kv.out hgv.out hb')
                clear hg
                replace oT := hide ho
                refine hK.out _ _ (hide (hHeld.out.nextB hb')) (fun hHeld => ?_)
                clear hK K
                clear ho hb' ol
                try simp only [Act.put, List.setIfInBounds_toArray, List.set_cons_zero, List.set_cons_succ]
                refine wpAnyH_takeD (i := 11) (d := (some 73)) (v := ?_) rfl rfl (by kernel_rfl) (by kernel_rfl) (by kernel_rfl) (fun _ _ _ h => h) (Or.inl ⟨by rfl, ?_⟩) (by assumption) ?_
                rotate_left
                · ((intro w hSw; go_simp) <;> with_reducible rfl)
                try simp only [Act.put, List.setIfInBounds_toArray, List.set_cons_zero, List.set_cons_succ]
                refine wpAnyH_ready (rs := [12]) (by kernel_rfl) (by simp) ?_
                refine AllReadyH.cons rfl (fun K hK => ?_) (AllReadyH.nil)
                obtain ⟨y1, z1⟩ := ro_cf kv.out 2 _ rfl
                go_simp
                refine hK.out _ _ (hide (hHeld.out.set _)) (fun hHeld => ?_)
                clear hK K
                clear y1 z1
                replace oT := hide (oT.out.butT kv.out (by decide) ((But.refl gv v4).set (o := 2) (.slice AT' (nT + 1) cT')))
                replace oS := hide (oS.out.butT kv.out (by decide) ((But.refl gv v4).set (o := 2) (.slice AT' (nT + 1) cT')))
                replace oU := hide (oU.out.butT kv.out (by decide) ((But.refl gv v4).set (o := 2) (.slice AT' (nT + 1) cT')))
                replace kv := hide (show Ro (v4.setCell ⟨gv, 2, none⟩ (.slice AT' (nT + 1) cT')) gv #[.slice A0 n0 c0, .slice A1 n1 c1, .slice AT' (nT + 1) cT', .slice none 0 0, .slice none 0 0, .slice AS nS cS, .slice AU nU cU] 28 from by have := ro_set kv.out 2 (.slice AT' (nT + 1) cT'); simpa using this)
                generalize v4.setCell ⟨gv, 2, none⟩ (.slice AT' (nT + 1) cT') = v5 at *
                try simp only [Act.put, List.setIfInBounds_toArray, List.set_cons_zero, List.set_cons_succ]
                refine wpAnyH_done (by kernel_rfl) ?_ _
                go_wp2_with fail
                go_meet
                exact ⟨_, _, kv, oT, oS, oU, hHeld⟩
          case rest =>
            obtain ⟨AT', cT', kv', oT', oS', oU', bt'⟩ := hcut
            rename World => wb
            clear kv oT oS oU bt
            have kv := kv'
            clear kv'
            have oT := oT'
            clear oT'
            have oS := oS'
            clear oS'
            have oU := oU'
            clear oU'
            have bt := bt'
            clear bt'
            obtain ⟨y5, _⟩ := ro_cf (ro_but k.out bt.out hkv.out) 5 _ k5c.out
            rcases Hsd.out with ⟨hu0, hu1⟩ | ⟨hu0, hu1⟩
            · have hsS := hide (show bls ((swp b.sd kn false).take (m + 1)) = bls ((swp b.sd kn false).take m) by rw [hu1]; simp [swp])
              rw [hu0] at y5
              clear hu1
              go_upto_region 15 with fail
              clear y5
              obtain ⟨y6, _⟩ := ro_cf (ro_but k.out bt.out hkv.out) 6 _ k6c.out
              rcases Hut.out with ⟨hu0, hu1⟩ | ⟨hu0, hu1⟩
              · have hsU := hide (show bls ((swp b.ut kn false).take (m + 1)) = bls ((swp b.ut kn false).take m) by rw [hu1]; simp [swp])
                rw [hu0] at y6
                clear hu1
                go_wp2_with fail
                go_roundw
                case rel => exact ⟨m + 1, nT + 1, nS, nU, cT', cS, cU, AT', AS, AU, by omega, by go_num, kv, by rw [hst.out, tcs_app, tcs_one]; exact oT, by rw [hsS.out]; exact oS, by rw [hsU.out]; exact oU, dj, bt⟩
                case measure => simp [intOf]; omega
              · obtain ⟨u1, hu2, hu3⟩ := gB.out b.ut hu1 m hlt
                have hun : oi < S.ut.n := by rw [hu0]; exact hoi
                have d7 : decide ((0 : Int) < (S.ut.n : Int)) = true := decide_eq_true (by omega)
                have d8 : (oi : Int) < (S.ut.n : Int) := by omega
                have d9 : (0 : Int) < (S.ut.n : Int) := by omega
                obtain ⟨adU, _, e6, _⟩ := (hR.out _ (But.down hb1.out hgw.out bt.out)).ut.at_ hun
                have k6d := hide (show cs[6]? = some (.slice (some adU) S.ut.n S.ut.c) by rw [← e6]; exact k6c.out)
                rw [hoi'] at hu2
                have elU := hide (show ∀ W, Below w.heap.size w W → W.cell? (adU.add oi) = some (.bool u1) from fun W hB => by
                  obtain ⟨ad', v, e', hv, c_⟩ := (hR.out W hB).ut.at_ hun
                  rw [e6] at e'
                  cases e'
                  rw [List.getElem?_map, hu2] at hv
                  cases hv
                  exact c_)
                have hsU := hide hu3
                clear hu1 hu2 hu3 e6
                replace one1 := hide (show ∀ u ∈ [Value.bool u1], u.oneCell' = true by simp [Value.oneCell'])
                have hlU : nU ≤ m := by have := oU.out.len; simp at this; omega
                replace apm := hide (show nU + 1 ≤ maxLen by simp [maxLen]; omega)
                replace apb := hide (show (nU + 1) * 1 ≤ 140737488355328 by omega)
                go_upto_region 16 with fail
                clear y6
                replace kv := hide kv.out.drew
                replace oT := hide oT.out.drew
                replace oS := hide oS.out.drew
                replace oU := hide oU.out.drew
                refine wp_region_held_drew (S := fun w' => Hid (But gv w2 w')) (by kernel_rfl) (hide bt.out.drew) (fun hHeld => ?_)
                generalize wb.drew = u0 at *
                refine wpAnyH_takeD (i := 0) (d := (some 94)) (v := ?_) rfl rfl (by kernel_rfl) (by kernel_rfl) (by kernel_rfl) (fun _ _ _ h => h) (Or.inl ⟨by rfl, ?_⟩) (by assumption) ?_
                rotate_left
                · ((intro w hSw; go_simp) <;> with_reducible rfl)
                try simp only [Act.put, List.setIfInBounds_toArray, List.set_cons_zero, List.set_cons_succ]
                refine wpAnyH_takeD (i := 2) (d := (some 96)) (v := ?_) rfl rfl (by kernel_rfl) (by kernel_rfl) (by kernel_rfl) (fun _ _ _ h => h) (Or.inl ⟨by rfl, ?_⟩) (by assumption) ?_
                rotate_left
                · ((intro w hSw; go_simp) <;> with_reducible rfl)
                try simp only [Act.put, List.setIfInBounds_toArray, List.set_cons_zero, List.set_cons_succ]
                refine wpAnyH_takeD (i := 3) (d := (some 97)) (v := ?_) rfl rfl (by kernel_rfl) (by kernel_rfl) (by kernel_rfl) (fun _ _ _ h => h) (Or.inl ⟨by rfl, ?_⟩) (by assumption) ?_
                rotate_left
                · ((intro w hSw; obtain ⟨q_, _⟩ := ro_cf (ro_but k.out hSw.out hkv.out) 6 _ k6d.out; go_simp) <;> with_reducible rfl)
                try simp only [Act.put, List.setIfInBounds_toArray, List.set_cons_zero, List.set_cons_succ]
                refine wpAnyH_takeD (i := 4) (d := (some 98)) (v := ?_) rfl rfl (by kernel_rfl) (by kernel_rfl) (by kernel_rfl) (fun _ _ _ h => h) (Or.inl ⟨by rfl, ?_⟩) (by assumption) ?_
                rotate_left
                · ((intro w hSw; go_simp) <;> with_reducible rfl)
                try simp only [Act.put, List.setIfInBounds_toArray, List.set_cons_zero, List.set_cons_succ]
                refine wpAnyH_takeD (i := 5) (d := (some 99)) (v := ?_) rfl rfl (by kernel_rfl) (by kernel_rfl) (by kernel_rfl) (fun _ _ _ h => h) (Or.inl ⟨by rfl, ?_⟩) (by assumption) ?_
                rotate_left
                · ((intro w hSw; go_simp) <;> with_reducible rfl)
                try simp only [Act.put, List.setIfInBounds_toArray, List.set_cons_zero, List.set_cons_succ]
                refine wpAnyH_ready (rs := [1, 6]) (by kernel_rfl) (by simp) ?_
                refine AllReadyH.cons rfl (fun K hK => ?_) (AllReadyH.cons rfl (fun K hK => ?_) (AllReadyH.nil))
                · obtain ⟨y1, z1⟩ := ro_cf kv.out 6 _ rfl
                  go_simp
                  refine hK.out _ _ (hHeld) (fun hHeld => ?_)
                  clear hK K
                  clear y1 z1
                  try simp only [Act.put, List.setIfInBounds_toArray, List.set_cons_zero, List.set_cons_succ]
                  refine wpAnyH_ready (rs := [6]) (by kernel_rfl) (by simp) ?_
                  refine AllReadyH.cons rfl (fun K hK => ?_) (AllReadyH.nil)
                  go_simp
                  refine (OT2.out _).mono ?_
                  rintro e v9 ⟨rfl, rfl⟩
                  refine hK.out _ _ (hHeld) (fun hHeld => ?_)
                  clear hK K
                  try simp only [Act.put, List.setIfInBounds_toArray, List.set_cons_zero, List.set_cons_succ]
                  refine wpAnyH_takeD (i := 7) (d := (some 101)) (v := ?_) rfl rfl (by kernel_rfl) (by kernel_rfl) (by kernel_rfl) (fun _ _ _ h => h) (Or.inl ⟨by rfl, ?_⟩) (by assumption) ?_
                  rotate_left
                  · ((intro w hSw; go_simp) <;> with_reducible rfl)
                  try simp only [Act.put, List.setIfInBounds_toArray, List.set_cons_zero, List.set_cons_succ]
                  refine wpAnyH_takeD (i := 8) (d := (some 102)) (v := ?_) rfl rfl (by kernel_rfl) (by kernel_rfl) (by kernel_rfl) (fun _ _ _ h => h) (Or.inl ⟨by rfl, ?_⟩) (by assumption) ?_
                  rotate_left
                  · ((intro w hSw; have q_ := elU.out _ (But.down hb1.out hgw.out hSw.out); go_simp) <;> with_reducible rfl)
                  try simp only [Act.put, List.setIfInBounds_toArray, List.set_cons_zero, List.set_cons_succ]
                  refine wpAnyH_ready (rs := [9]) (by kernel_rfl) (by simp) ?_
                  refine AllReadyH.cons rfl (fun K hK => ?_) (AllReadyH.nil)
                  go_simp
                  have ol := hide ((Ow.lit u0 4 [.bool u1] (by simp [maxLen])).rd)
                  replace kv := hide (kv.out.alloc (.cells #[.bool u1] 4))
                  replace oT := hide (oT.out.alloc (.cells #[.bool u1] 4))
                  replace oS := hide (oS.out.alloc (.cells #[.bool u1] 4))
                  replace oU := hide (oU.out.alloc (.cells #[.bool u1] 4))
                  refine hK.out _ _ (hide (hHeld.out.alloc (.cells #[.bool u1] 4))) (fun hHeld => ?_)
                  clear hK K
                  generalize u0.heap.size = gs at *
                  generalize u0.alloc (.cells #[.bool u1] 4) = v3 at *
                  try simp only [Act.put, List.setIfInBounds_toArray, List.set_cons_zero, List.set_cons_succ]
                  refine wpAnyH_ready (rs := [10]) (by kernel_rfl) (by simp) ?_
                  refine AllReadyH.cons rfl (fun K hK => ?_) (AllReadyH.nil)
                  refine step_apAG elBoR oU.out (Below.refl w2.heap.size v3) (Nat.le_refl _) ol.out (.tmp 95) (.tmp 103) rfl rfl rfl rfl (fun h => by cases h) one1.out apm.out apb.out (fun AU' cU' v4 ho hb' hg => ?_)
                  have dx := oT.out.ty.dj oU.out.ty (by decide)
                  replace oT := hide (own_grownK oT.out hg.g dx)
                  clear dx
                  have dj' := hide (hg.dj oS.out dj.out)
                  replace oS := hide (hg.ow oS.out dj.out)
                  replace dj := dj'
                  replace kv := hide (ro_lowN kv.out hgv.out hb')
                  clear hg
                  replace oU := hide ho
                  refine hK.out _ _ (hide (hHeld.out.nextB hb')) (fun hHeld => ?_)
                  clear hK K
                  clear ho hb' ol
                  try simp only [Act.put, List.setIfInBounds_toArray, List.set_cons_zero, List.set_cons_succ]
                  refine wpAnyH_takeD (i := 11) (d := (some 105)) (v := ?_) rfl rfl (by kernel_rfl) (by kernel_rfl) (by kernel_rfl) (fun _ _ _ h => h) (Or.inl ⟨by rfl, ?_⟩) (by assumption) ?_
                  rotate_left
                  · ((intro w hSw; go_simp) <;> with_reducible rfl)
                  try simp only [Act.put, List.setIfInBounds_toArray, List.set_cons_zero, List.set_cons_succ]
                  refine wpAnyH_ready (rs := [12]) (by kernel_rfl) (by simp) ?_
                  refine AllReadyH.cons rfl (fun K hK => ?_) (AllReadyH.nil)
                  obtain ⟨y1, z1⟩ := ro_cf kv.out 6 _ rfl
                  go_simp
                  refine hK.out _ _ (hide (hHeld.out.set _)) (fun hHeld => ?_)
                  clear hK K
                  clear y1 z1
                  replace oT := hide (oT.out.butT kv.out (by decide) ((But.refl gv v4).set (o := 6) (.slice AU' (nU + 1) cU')))
                  replace oS := hide (oS.out.butT kv.out (by decide) ((But.refl gv v4).set (o := 6) (.slice AU' (nU + 1) cU')))
                  replace oU := hide (oU.out.butT kv.out (by decide) ((But.refl gv v4).set (o := 6) (.slice AU' (nU + 1) cU')))
                  replace kv := hide (show Ro (v4.setCell ⟨gv, 6, none⟩ (.slice AU' (nU + 1) cU')) gv #[.slice A0 n0 c0, .slice A1 n1 c1, .slice AT' (nT + 1) cT', .slice none 0 0, .slice none 0 0, .slice AS nS cS, .slice AU' (nU + 1) cU'] 28 from by have := ro_set kv.out 6 (.slice AU' (nU + 1) cU'); simpa using this)
                  generalize v4.setCell ⟨gv, 6, none⟩ (.slice AU' (nU + 1) cU') = v5 at *
                  try simp only [Act.put, List.setIfInBounds_toArray, List.set_cons_zero, List.set_cons_succ]
                  refine wpAnyH_done (by kernel_rfl) ?_ _
                  have bt := hHeld
                  clear hHeld
                  go_wp2_with fail
                  go_roundw
                  case rel => exact ⟨m + 1, nT + 1, nS, nU + 1, cT', cS, cU', AT', AS, AU', by omega, by go_num, kv, by rw [hst.out, tcs_app, tcs_one]; exact oT, by rw [hsS.out]; exact oS, by rw [hsU.out, bls_app]; exact oU, dj, bt⟩
                  case measure => simp [intOf]; omega
                · go_simp
                  refine (OT2.out _).mono ?_
                  rintro e v9 ⟨rfl, rfl⟩
                  refine hK.out _ _ (hHeld) (fun hHeld => ?_)
                  clear hK K
                  try simp only [Act.put, List.setIfInBounds_toArray, List.set_cons_zero, List.set_cons_succ]
                  refine wpAnyH_takeD (i := 7) (d := (some 101)) (v := ?_) rfl rfl (by kernel_rfl) (by kernel_rfl) (by kernel_rfl) (fun _ _ _ h => h) (Or.inl ⟨by rfl, ?_⟩) (by assumption) ?_
                  rotate_left
                  · ((intro w hSw; go_simp) <;> with_reducible rfl)
                  try simp only [Act.put, List.setIfInBounds_toArray, List.set_cons_zero, List.set_cons_succ]
                  refine wpAnyH_takeD (i := 8) (d := (some 102)) (v := ?_) rfl rfl (by kernel_rfl) (by kernel_rfl) (by kernel_rfl) (fun _ _ _ h => h) (Or.inl ⟨by rfl, ?_⟩) (by assumption) ?_
                  rotate_left
                  · ((intro w hSw; have q_ := elU.out _ (But.down hb1.out hgw.out hSw.out); go_simp) <;> with_reducible rfl)
                  try simp only [Act.put, List.setIfInBounds_toArray, List.set_cons_zero, List.set_cons_succ]
                  refine wpAnyH_ready (rs := [1, 9]) (by kernel_rfl) (by simp) ?_
                  refine AllReadyH.cons rfl (fun K hK => ?_) (AllReadyH.cons rfl (fun K hK => ?_) (AllReadyH.nil))
                  · obtain ⟨y1, z1⟩ := ro_cf kv.out 6 _ rfl
                    go_simp
                    refine hK.out _ _ (hHeld) (fun hHeld => ?_)
                    clear hK K
                    clear y1 z1
                    try simp only [Act.put, List.setIfInBounds_toArray, List.set_cons_zero, List.set_cons_succ]
                    refine wpAnyH_ready (rs := [9]) (by kernel_rfl) (by simp) ?_
                    refine AllReadyH.cons rfl (fun K hK => ?_) (AllReadyH.nil)
                    go_simp
                    have ol := hide ((Ow.lit u0 4 [.bool u1] (by simp [maxLen])).rd)
                    replace kv := hide (kv.out.alloc (.cells #[.bool u1] 4))
                    replace oT := hide (oT.out.alloc (.cells #[.bool u1] 4))
                    replace oS := hide (oS.out.alloc (.cells #[.bool u1] 4))
                    replace oU := hide (oU.out.alloc (.cells #[.bool u1] 4))
                    refine hK.out _ _ (hide (hHeld.out.alloc (.cells #[.bool u1] 4))) (fun hHeld => ?_)
                    clear hK K
                    generalize u0.heap.size = gs at *
                    generalize u0.alloc (.cells #[.bool u1] 4) = v3 at *
                    try simp only [Act.put, List.setIfInBounds_toArray, List.set_cons_zero, List.set_cons_succ]
                    refine wpAnyH_ready (rs := [10]) (by kernel_rfl) (by simp) ?_
                    refine AllReadyH.cons rfl (fun K hK => ?_) (AllReadyH.nil)
                    refine step_apAG elBoR oU.out (Below.refl w2.heap.size v3) (Nat.le_refl _) ol.out (.tmp 95) (.tmp 103) rfl rfl rfl rfl (fun h => by cases h) one1.out apm.out apb.out (fun AU' cU' v4 ho hb' hg => ?_)
                    have dx := oT.out.ty.dj oU.out.ty (by decide)
                    replace oT := hide (own_grownK oT.out hg.g dx)
                    clear dx
                    have dj' := hide (hg.dj oS.out dj.out)
                    replace oS := hide (hg.ow oS.out dj.out)
                    replace dj := dj'
                    replace kv := hide (ro_lowN kv.out hgv.out hb')
                    clear hg
                    replace oU := hide ho
                    refine hK.out _ _ (hide (hHeld.out.nextB hb')) (fun hHeld => ?_)
                    clear hK K
                    clear ho hb' ol
                    try simp only [Act.put, List.setIfInBounds_toArray, List.set_cons_zero, List.set_cons_succ]
                    refine wpAnyH_takeD (i := 11) (d := (some 105)) (v := ?_) rfl rfl (by kernel_rfl) (by kernel_rfl) (by kernel_rfl) (fun _ _ _ h => h) (Or.inl ⟨by rfl, ?_⟩) (by assumption) ?_
                    rotate_left
                    · ((intro w hSw; go_simp) <;> with_reducible rfl)
                    try simp only [Act.put, List.setIfInBounds_toArray, List.set_cons_zero, List.set_cons_succ]
                    refine wpAnyH_ready (rs := [12]) (by kernel_rfl) (by simp) ?_
                    refine AllReadyH.cons rfl (fun K hK => ?_) (AllReadyH.nil)
                    obtain ⟨y1, z1⟩ := ro_cf kv.out 6 _ rfl
                    go_simp
                    refine hK.out _ _ (hide (hHeld.out.set _)) (fun hHeld => ?_)
                    clear hK K
                    clear y1 z1
                    replace oT := hide (oT.out.butT kv.out (by decide) ((But.refl gv v4).set (o := 6) (.slice AU' (nU + 1) cU')))
                    replace oS := hide (oS.out.butT kv.out (by decide) ((But.refl gv v4).set (o := 6) (.slice AU' (nU + 1) cU')))
                    replace oU := hide (oU.out.butT kv.out (by decide) ((But.refl gv v4).set (o := 6) (.slice AU' (nU + 1) cU')))
                    replace kv := hide (show Ro (v4.setCell ⟨gv, 6, none⟩ (.slice AU' (nU + 1) cU')) gv #[.slice A0 n0 c0, .slice A1 n1 c1, .slice AT' (nT + 1) cT', .slice none 0 0, .slice none 0 0, .slice AS nS cS, .slice AU' (nU + 1) cU'] 28 from by have := ro_set kv.out 6 (.slice AU' (nU + 1) cU'); simpa using this)
                    generalize v4.setCell ⟨gv, 6, none⟩ (.slice AU' (nU + 1) cU') = v5 at *
                    try simp only [Act.put, List.setIfInBounds_toArray, List.set_cons_zero, List.set_cons_succ]
                    refine wpAnyH_done (by kernel_rfl) ?_ _
                    have bt := hHeld
                    clear hHeld
                    go_wp2_with fail
                    go_roundw
                    case rel => exact ⟨m + 1, nT + 1, nS, nU + 1, cT', cS, cU', AT', AS, AU', by omega, by go_num, kv, by rw [hst.out, tcs_app, tcs_one]; exact oT, by rw [hsS.out]; exact oS, by rw [hsU.out, bls_app]; exact oU, dj, bt⟩
                    case measure => simp [intOf]; omega
                  · go_simp
                    have ol := hide ((Ow.lit u0 4 [.bool u1] (by simp [maxLen])).rd)
                    replace kv := hide (kv.out.alloc (.cells #[.bool u1] 4))
                    replace oT := hide (oT.out.alloc (.cells #[.bool u1] 4))
                    replace oS := hide (oS.out.alloc (.cells #[.bool u1] 4))
                    replace oU := hide (oU.out.alloc (.cells #[.bool u1] 4))
                    refine hK.out _ _ (hide (hHeld.out.alloc (.cells #[.bool u1] 4))) (fun hHeld => ?_)
                    clear hK K
                    generalize u0.heap.size = gs at *
                    generalize u0.alloc (.cells #[.bool u1] 4) = v2 at *
                    try simp only [Act.put, List.setIfInBounds_toArray, List.set_cons_zero, List.set_cons_succ]
                    refine wpAnyH_ready (rs := [1]) (by kernel_rfl) (by simp) ?_
                    refine AllReadyH.cons rfl (fun K hK => ?_) (AllReadyH.nil)
                    obtain ⟨y1, z1⟩ := ro_cf kv.out 6 _ rfl
                    go_simp
                    refine hK.out _ _ (hHeld) (fun hHeld => ?_)
                    clear hK K
                    clear y1 z1
                    try simp only [Act.put, List.setIfInBounds_toArray, List.set_cons_zero, List.set_cons_succ]
                    refine wpAnyH_ready (rs := [10]) (by kernel_rfl) (by simp) ?_
                    refine AllReadyH.cons rfl (fun K hK => ?_) (AllReadyH.nil)
                    refine step_apAG elBoR oU.out (Below.refl w2.heap.size v2) (Nat.le_refl _) ol.out (.tmp 95) (.tmp 103) rfl rfl rfl rfl (fun h => by cases h) one1.out apm.out apb.out (fun AU' cU' v4 ho hb' hg => ?_)
                    have dx := oT.out.ty.dj oU.out.ty (by decide)
                    replace oT := hide (own_grownK oT.out hg.g dx)
                    clear dx
                    have dj' := hide (hg.dj oS.out dj.out)
                    replace oS := hide (hg.ow oS.out dj.out)
                    replace dj := dj'
                    replace kv := hide (ro_lowN kv.out hgv.out hb')
                    clear hg
                    replace oU := hide ho
                    refine hK.out _ _ (hide (hHeld.out.nextB hb')) (fun hHeld => ?_)
                    clear hK K
                    clear ho hb' ol
                    try simp only [Act.put, List.setIfInBounds_toArray, List.set_cons_zero, List.set_cons_succ]
                    refine wpAnyH_takeD (i := 11) (d := (some 105)) (v := ?_) rfl rfl (by kernel_rfl) (by kernel_rfl) (by kernel_rfl) (fun _ _ _ h => h) (Or.inl ⟨by rfl, ?_⟩) (by assumption) ?_
                    rotate_left
                    · ((intro w hSw; go_simp) <;> with_reducible rfl)
                    try simp only [Act.put, List.setIfInBounds_toArray, List.set_cons_zero, List.set_cons_succ]
                    refine wpAnyH_ready (rs := [12]) (by kernel_rfl) (by simp) ?_
                    refine AllReadyH.cons rfl (fun K hK => ?_) (AllReadyH.nil)
                    obtain ⟨y1, z1⟩ := ro_cf kv.out 6 _ rfl
                    go_simp
                    refine hK.out _ _ (hide (hHeld.out.set _)) (fun hHeld => ?_)
                    clear hK K
                    clear y1 z1
                    replace oT := hide (oT.out.butT kv.out (by decide) ((But.refl gv v4).set (o := 6) (.slice AU' (nU + 1) cU')))
                    replace oS := hide (oS.out.butT kv.out (by decide) ((But.refl gv v4).set (o := 6) (.slice AU' (nU + 1) cU')))
                    replace oU := hide (oU.out.butT kv.out (by decide) ((But.refl gv v4).set (o := 6) (.slice AU' (nU + 1) cU')))
                    replace kv := hide (show Ro (v4.setCell ⟨gv, 6, none⟩ (.slice AU' (nU + 1) cU')) gv #[.slice A0 n0 c0, .slice A1 n1 c1, .slice AT' (nT + 1) cT', .slice none 0 0, .slice none 0 0, .slice AS nS cS, .slice AU' (nU + 1) cU'] 28 from by have := ro_set kv.out 6 (.slice AU' (nU + 1) cU'); simpa using this)
                    generalize v4.setCell ⟨gv, 6, none⟩ (.slice AU' (nU + 1) cU') = v5 at *
                    try simp only [Act.put, List.setIfInBounds_toArray, List.set_cons_zero, List.set_cons_succ]
                    refine wpAnyH_done (by kernel_rfl) ?_ _
                    have bt := hHeld
                    clear hHeld
                    go_wp2_with fail
                    go_roundw
                    case rel => exact ⟨m + 1, nT + 1, nS, nU + 1, cT', cS, cU', AT', AS, AU', by omega, by go_num, kv, by rw [hst.out, tcs_app, tcs_one]; exact oT, by rw [hsS.out]; exact oS, by rw [hsU.out, bls_app]; exact oU, dj, bt⟩
                    case measure => simp [intOf]; omega
            · obtain ⟨u1, hu2, hu3⟩ := gB.out b.sd hu1 m hlt
              have hun : oi < S.sd.n := by rw [hu0]; exact hoi
              have d7 : decide ((0 : Int) < (S.sd.n : Int)) = true := decide_eq_true (by omega)
              have d8 : (oi : Int) < (S.sd.n : Int) := by omega
              have d9 : (0 : Int) < (S.sd.n : Int) := by omega
              obtain ⟨adU, _, e6, _⟩ := (hR.out _ (But.down hb1.out hgw.out bt.out)).sd.at_ hun
              have k6d := hide (show cs[5]? = some (.slice (some adU) S.sd.n S.sd.c) by rw [← e6]; exact k5c.out)
              rw [hoi'] at hu2
              have elU := hide (show ∀ W, Below w.heap.size w W → W.cell? (adU.add oi) = some (.bool u1) from fun W hB => by
                obtain ⟨ad', v, e', hv, c_⟩ := (hR.out W hB).sd.at_ hun
                rw [e6] at e'
                cases e'
                rw [List.getElem?_map, hu2] at hv
                cases hv
                exact c_)
              have hsS := hide hu3
              clear hu1 hu2 hu3 e6
              replace one1 := hide (show ∀ u ∈ [Value.bool u1], u.oneCell' = true by simp [Value.oneCell'])
              have hlU : nS ≤ m := by have := oS.out.len; simp at this; omega
              replace apm := hide (show nS + 1 ≤ maxLen by simp [maxLen]; omega)
              replace apb := hide (show (nS + 1) * 1 ≤ 140737488355328 by omega)
              go_upto_region 14 with fail
              clear y5
              replace kv := hide kv.out.drew
              replace oT := hide oT.out.drew
              replace oS := hide oS.out.drew
              replace oU := hide oU.out.drew
              refine wp_region_held_drew (S := fun w' => Hid (But gv w2 w')) (by kernel_rfl) (hide bt.out.drew) (fun hHeld => ?_)
              generalize wb.drew = u0 at *
              refine wpAnyH_takeD (i := 0) (d := (some 78)) (v := ?_) rfl rfl (by kernel_rfl) (by kernel_rfl) (by kernel_rfl) (fun _ _ _ h => h) (Or.inl ⟨by rfl, ?_⟩) (by assumption) ?_
              rotate_left
              · ((intro w hSw; go_simp) <;> with_reducible rfl)
              try simp only [Act.put, List.setIfInBounds_toArray, List.set_cons_zero, List.set_cons_succ]
              refine wpAnyH_takeD (i := 2) (d := (some 80)) (v := ?_) rfl rfl (by kernel_rfl) (by kernel_rfl) (by kernel_rfl) (fun _ _ _ h => h) (Or.inl ⟨by rfl, ?_⟩) (by assumption) ?_
              rotate_left
              · ((intro w hSw; go_simp) <;> with_reducible rfl)
              try simp only [Act.put, List.setIfInBounds_toArray, List.set_cons_zero, List.set_cons_succ]
              refine wpAnyH_takeD (i := 3) (d := (some 81)) (v := ?_) rfl rfl (by kernel_rfl) (by kernel_rfl) (by kernel_rfl) (fun _ _ _ h => h) (Or.inl ⟨by rfl, ?_⟩) (by assumption) ?_
              rotate_left
              · ((intro w hSw; obtain ⟨q_, _⟩ := ro_cf (ro_but k.out hSw.out hkv.out) 5 _ k6d.out; go_simp) <;> with_reducible rfl)
              try simp only [Act.put, List.setIfInBounds_toArray, List.set_cons_zero, List.set_cons_succ]
              refine wpAnyH_takeD (i := 4) (d := (some 82)) (v := ?_) rfl rfl (by kernel_rfl) (by kernel_rfl) (by kernel_rfl) (fun _ _ _ h => h) (Or.inl ⟨by rfl, ?_⟩) (by assumption) ?_
              rotate_left
              · ((intro w hSw; go_simp) <;> with_reducible rfl)
              try simp only [Act.put, List.setIfInBounds_toArray, List.set_cons_zero, List.set_cons_succ]
              refine wpAnyH_takeD (i := 5) (d := (some 83)) (v := ?_) rfl rfl (by kernel_rfl) (by kernel_rfl) (by kernel_rfl) (fun _ _ _ h => h) (Or.inl ⟨by rfl, ?_⟩) (by assumption) ?_
              rotate_left
              · ((intro w hSw; go_simp) <;> with_reducible rfl)
              try simp only [Act.put, List.setIfInBounds_toArray, List.set_cons_zero, List.set_cons_succ]
              refine wpAnyH_ready (rs := [1, 6]) (by kernel_rfl) (by simp) ?_
              refine AllReadyH.cons rfl (fun K hK => ?_) (AllReadyH.cons rfl (fun K hK => ?_) (AllReadyH.nil))
              · obtain ⟨y1, z1⟩ := ro_cf kv.out 5 _ rfl
                go_simp
                refine hK.out _ _ (hHeld) (fun hHeld => ?_)
                clear hK K
                clear y1 z1
                try simp only [Act.put, List.setIfInBounds_toArray, List.set_cons_zero, List.set_cons_succ]
                refine wpAnyH_ready (rs := [6]) (by kernel_rfl) (by simp) ?_
                refine AllReadyH.cons rfl (fun K hK => ?_) (AllReadyH.nil)
                go_simp
                refine (OT2.out _).mono ?_
                rintro e v9 ⟨rfl, rfl⟩
                refine hK.out _ _ (hHeld) (fun hHeld => ?_)
                clear hK K
                try simp only [Act.put, List.setIfInBounds_toArray, List.set_cons_zero, List.set_cons_succ]
                refine wpAnyH_takeD (i := 7) (d := (some 85)) (v := ?_) rfl rfl (by kernel_rfl) (by kernel_rfl) (by kernel_rfl) (fun _ _ _ h => h) (Or.inl ⟨by rfl, ?_⟩) (by assumption) ?_
                rotate_left
                · ((intro w hSw; go_simp) <;> with_reducible rfl)
                try simp only [Act.put, List.setIfInBounds_toArray, List.set_cons_zero, List.set_cons_succ]
                refine wpAnyH_takeD (i := 8) (d := (some 86)) (v := ?_) rfl rfl (by kernel_rfl) (by kernel_rfl) (by kernel_rfl) (fun _ _ _ h => h) (Or.inl ⟨by rfl, ?_⟩) (by assumption) ?_
                rotate_left
                · ((intro w hSw; have q_ := elU.out _ (But.down hb1.out hgw.out hSw.out); go_simp) <;> with_reducible rfl)
                try simp only [Act.put, List.setIfInBounds_toArray, List.set_cons_zero, List.set_cons_succ]
                refine wpAnyH_ready (rs := [9]) (by kernel_rfl) (by simp) ?_
                refine AllReadyH.cons rfl (fun K hK => ?_) (AllReadyH.nil)
                go_simp
                have ol := hide ((Ow.lit u0 4 [.bool u1] (by simp [maxLen])).rd)
                replace kv := hide (kv.out.alloc (.cells #[.bool u1] 4))
                replace oT := hide (oT.out.alloc (.cells #[.bool u1] 4))
                replace oS := hide (oS.out.alloc (.cells #[.bool u1] 4))
                replace oU := hide (oU.out.alloc (.cells #[.bool u1] 4))
                refine hK.out _ _ (hide (hHeld.out.alloc (.cells #[.bool u1] 4))) (fun hHeld => ?_)
                clear hK K
                generalize u0.heap.size = gs at *
                generalize u0.alloc (.cells #[.bool u1] 4) = v3 at *
                try simp only [Act.put, List.setIfInBounds_toArray, List.set_cons_zero, List.set_cons_succ]
                refine wpAnyH_ready (rs := [10]) (by kernel_rfl) (by simp) ?_
                refine AllReadyH.cons rfl (fun K hK => ?_) (AllReadyH.nil)
                refine step_apAG elBoR oS.out (Below.refl w2.heap.size v3) (Nat.le_refl _) ol.out (.tmp 79) (.tmp 87) rfl rfl rfl rfl (fun h => by cases h) one1.out apm.out apb.out (fun AS' cS' v4 ho hb' hg => ?_)
                have dx := oT.out.ty.dj oS.out.ty (by decide)
                replace oT := hide (own_grownK oT.out hg.g dx)
                clear dx
                have dj' := hide (hg.dj oU.out dj.out.symm).symm
                replace oU := hide (hg.ow oU.out dj.out.symm)
                replace dj := dj'
                replace kv := hide (ro_lowN kv.out hgv.out hb')
                clear hg
                replace oS := hide ho
                refine hK.out _ _ (hide (hHeld.out.nextB hb')) (fun hHeld => ?_)
                clear hK K
                clear ho hb' ol
                try simp only [Act.put, List.setIfInBounds_toArray, List.set_cons_zero, List.set_cons_succ]
                refine wpAnyH_takeD (i := 11) (d := (some 89)) (v := ?_) rfl rfl (by kernel_rfl) (by kernel_rfl) (by kernel_rfl) (fun _ _ _ h => h) (Or.inl ⟨by rfl, ?_⟩) (by assumption) ?_
                rotate_left
                · ((intro w hSw; go_simp) <;> with_reducible rfl)
                try simp only [Act.put, List.setIfInBounds_toArray, List.set_cons_zero, List.set_cons_succ]
                refine wpAnyH_ready (rs := [12]) (by kernel_rfl) (by simp) ?_
                refine AllReadyH.cons rfl (fun K hK => ?_) (AllReadyH.nil)
                obtain ⟨y1, z1⟩ := ro_cf kv.out 5 _ rfl
                go_simp
                refine hK.out _ _ (hide (hHeld.out.set _)) (fun hHeld => ?_)
                clear hK K
                clear y1 z1
                replace oT := hide (oT.out.butT kv.out (by decide) ((But.refl gv v4).set (o := 5) (.slice AS' (nS + 1) cS')))
                replace oS := hide (oS.out.butT kv.out (by decide) ((But.refl gv v4).set (o := 5) (.slice AS' (nS + 1) cS')))
                replace oU := hide (oU.out.butT kv.out (by decide) ((But.refl gv v4).set (o := 5) (.slice AS' (nS + 1) cS')))
                replace kv := hide (show Ro (v4.setCell ⟨gv, 5, none⟩ (.slice AS' (nS + 1) cS')) gv #[.slice A0 n0 c0, .slice A1 n1 c1, .slice AT' (nT + 1) cT', .slice none 0 0, .slice none 0 0, .slice AS' (nS + 1) cS', .slice AU nU cU] 28 from by have := ro_set kv.out 5 (.slice AS' (nS + 1) cS'); simpa using this)
                generalize v4.setCell ⟨gv, 5, none⟩ (.slice AS' (nS + 1) cS') = v5 at *
                try simp only [Act.put, List.setIfInBounds_toArray, List.set_cons_zero, List.set_cons_succ]
                refine wpAnyH_done (by kernel_rfl) ?_ _
                have bt := hHeld
                clear hHeld
                clear elU k6d hun d7 d8 d9 hlU hu0
                go_upto_region 15 with fail
                obtain ⟨y6, _⟩ := ro_cf (ro_but k.out bt.out hkv.out) 6 _ k6c.out
                rcases Hut.out with ⟨hu0, hu1⟩ | ⟨hu0, hu1⟩
                · have hsU := hide (show bls ((swp b.ut kn false).take (m + 1)) = bls ((swp b.ut kn false).take m) by rw [hu1]; simp [swp])
                  rw [hu0] at y6
                  clear hu1
                  go_wp2_with fail
                  go_roundw
                  case rel => exact ⟨m + 1, nT + 1, nS + 1, nU, cT', cS', cU, AT', AS', AU, by omega, by go_num, kv, by rw [hst.out, tcs_app, tcs_one]; exact oT, by rw [hsS.out, bls_app]; exact oS, by rw [hsU.out]; exact oU, dj, bt⟩
                  case measure => simp [intOf]; omega
                · obtain ⟨u1, hu2, hu3⟩ := gB.out b.ut hu1 m hlt
                  have hun : oi < S.ut.n := by rw [hu0]; exact hoi
                  have d7 : decide ((0 : Int) < (S.ut.n : Int)) = true := decide_eq_true (by omega)
                  have d8 : (oi : Int) < (S.ut.n : Int) := by omega
                  have d9 : (0 : Int) < (S.ut.n : Int) := by omega
                  obtain ⟨adU, _, e6, _⟩ := (hR.out _ (But.down hb1.out hgw.out bt.out)).ut.at_ hun
                  have k6d := hide (show cs[6]? = some (.slice (some adU) S.ut.n S.ut.c) by rw [← e6]; exact k6c.out)
                  rw [hoi'] at hu2
                  have elU := hide (show ∀ W, Below w.heap.size w W → W.cell? (adU.add oi) = some (.bool u1) from fun W hB => by
                    obtain ⟨ad', v, e', hv, c_⟩ := (hR.out W hB).ut.at_ hun
                    rw [e6] at e'
                    cases e'
                    rw [List.getElem?_map, hu2] at hv
                    cases hv
                    exact c_)
                  have hsU := hide hu3
                  clear hu1 hu2 hu3 e6
                  replace one1 := hide (show ∀ u ∈ [Value.bool u1], u.oneCell' = true by simp [Value.oneCell'])
                  have hlU : nU ≤ m := by have := oU.out.len; simp at this; omega
                  replace apm := hide (show nU + 1 ≤ maxLen by simp [maxLen]; omega)
                  replace apb := hide (show (nU + 1) * 1 ≤ 140737488355328 by omega)
                  go_upto_region 16 with fail
                  clear y6
                  replace kv := hide kv.out.drew
                  replace oT := hide oT.out.drew
                  replace oS := hide oS.out.drew
                  replace oU := hide oU.out.drew
                  refine wp_region_held_drew (S := fun w' => Hid (But gv w2 w')) (by kernel_rfl) (hide bt.out.drew) (fun hHeld => ?_)
                  generalize v5.drew = u0 at *
                  refine wpAnyH_takeD (i := 0) (d := (some 94)) (v := ?_) rfl rfl (by kernel_rfl) (by kernel_rfl) (by kernel_rfl) (fun _ _ _ h => h) (Or.inl ⟨by rfl, ?_⟩) (by assumption) ?_
                  rotate_left
                  · ((intro w hSw; go_simp) <;> with_reducible rfl)
                  try simp only [Act.put, List.setIfInBounds_toArray, List.set_cons_zero, List.set_cons_succ]
                  refine wpAnyH_takeD (i := 2) (d := (some 96)) (v := ?_) rfl rfl (by kernel_rfl) (by kernel_rfl) (by kernel_rfl) (fun _ _ _ h => h) (Or.inl ⟨by rfl, ?_⟩) (by assumption) ?_
                  rotate_left
                  · ((intro w hSw; go_simp) <;> with_reducible rfl)
                  try simp only [Act.put, List.setIfInBounds_toArray, List.set_cons_zero, List.set_cons_succ]
                  refine wpAnyH_takeD (i := 3) (d := (some 97)) (v := ?_) rfl rfl (by kernel_rfl) (by kernel_rfl) (by kernel_rfl) (fun _ _ _ h => h) (Or.inl ⟨by rfl, ?_⟩) (by assumption) ?_
                  rotate_left
                  · ((intro w hSw; obtain ⟨q_, _⟩ := ro_cf (ro_but k.out hSw.out hkv.out) 6 _ k6d.out; go_simp) <;> with_reducible rfl)
                  try simp only [Act.put, List.setIfInBounds_toArray, List.set_cons_zero, List.set_cons_succ]
                  refine wpAnyH_takeD (i := 4) (d := (some 98)) (v := ?_) rfl rfl (by kernel_rfl) (by kernel_rfl) (by kernel_rfl) (fun _ _ _ h => h) (Or.inl ⟨by rfl, ?_⟩) (by assumption) ?_
                  rotate_left
                  · ((intro w hSw; go_simp) <;> with_reducible rfl)
                  try simp only [Act.put, List.setIfInBounds_toArray, List.set_cons_zero, List.set_cons_succ]
                  refine wpAnyH_takeD (i := 5) (d := (some 99)) (v := ?_) rfl rfl (by kernel_rfl) (by kernel_rfl) (by kernel_rfl) (fun _ _ _ h => h) (Or.inl ⟨by rfl, ?_⟩) (by assumption) ?_
                  rotate_left
                  · ((intro w hSw; go_simp) <;> with_reducible rfl)
                  try simp only [Act.put, List.setIfInBounds_toArray, List.set_cons_zero, List.set_cons_succ]
                  refine wpAnyH_ready (rs := [1, 6]) (by kernel_rfl) (by simp) ?_
                  refine AllReadyH.cons rfl (fun K hK => ?_) (AllReadyH.cons rfl (fun K hK => ?_) (AllReadyH.nil))
                  · obtain ⟨y1, z1⟩ := ro_cf kv.out 6 _ rfl
                    go_simp
                    refine hK.out _ _ (hHeld) (fun hHeld => ?_)
                    clear hK K
                    clear y1 z1
                    try simp only [Act.put, List.setIfInBounds_toArray, List.set_cons_zero, List.set_cons_succ]
                    refine wpAnyH_ready (rs := [6]) (by kernel_rfl) (by simp) ?_
                    refine AllReadyH.cons rfl (fun K hK => ?_) (AllReadyH.nil)
                    go_simp
                    refine (OT2.out _).mono ?_
                    rintro e v9 ⟨rfl, rfl⟩
                    refine hK.out _ _ (hHeld) (fun hHeld => ?_)
                    clear hK K
                    try simp only [Act.put, List.setIfInBounds_toArray, List.set_cons_zero, List.set_cons_succ]
                    refine wpAnyH_takeD (i := 7) (d := (some 101)) (v := ?_) rfl rfl (by kernel_rfl) (by kernel_rfl) (by kernel_rfl) (fun _ _ _ h => h) (Or.inl ⟨by rfl, ?_⟩) (by assumption) ?_
                    rotate_left
                    · ((intro w hSw; go_simp) <;> with_reducible rfl)
                    try simp only [Act.put, List.setIfInBounds_toArray, List.set_cons_zero, List.set_cons_succ]
                    refine wpAnyH_takeD (i := 8) (d := (some 102)) (v := ?_) rfl rfl (by kernel_rfl) (by kernel_rfl) (by kernel_rfl) (fun _ _ _ h => h) (Or.inl ⟨by rfl, ?_⟩) (by assumption) ?_
                    rotate_left
                    · ((intro w hSw; have q_ := elU.out _ (But.down hb1.out hgw.out hSw.out); go_simp) <;> with_reducible rfl)
                    try simp only [Act.put, List.setIfInBounds_toArray, List.set_cons_zero, List.set_cons_succ]
                    refine wpAnyH_ready (rs := [9]) (by kernel_rfl) (by simp) ?_
                    refine AllReadyH.cons rfl (fun K hK => ?_) (AllReadyH.nil)
                    go_simp
                    have ol := hide ((Ow.lit u0 4 [.bool u1] (by simp [maxLen])).rd)
                    replace kv := hide (kv.out.alloc (.cells #[.bool u1] 4))
                    replace oT := hide (oT.out.alloc (.cells #[.bool u1] 4))
                    replace oS := hide (oS.out.alloc (.cells #[.bool u1] 4))
                    replace oU := hide (oU.out.alloc (.cells #[.bool u1] 4))
                    refine hK.out _ _ (hide (hHeld.out.alloc (.cells #[.bool u1] 4))) (fun hHeld => ?_)
                    clear hK K
                    generalize u0.heap.size = gs at *
                    generalize u0.alloc (.cells #[.bool u1] 4) = v3 at *
                    try simp only [Act.put, List.setIfInBounds_toArray, List.set_cons_zero, List.set_cons_succ]
                    refine wpAnyH_ready (rs := [10]) (by kernel_rfl) (by simp) ?_
                    refine AllReadyH.cons rfl (fun K hK => ?_) (AllReadyH.nil)
                    refine step_apAG elBoR oU.out (Below.refl w2.heap.size v3) (Nat.le_refl _) ol.out (.tmp 95) (.tmp 103) rfl rfl rfl rfl (fun h => by cases h) one1.out apm.out apb.out (fun AU' cU' v4 ho hb' hg => ?_)
                    have dx := oT.out.ty.dj oU.out.ty (by decide)
                    replace oT := hide (own_grownK oT.out hg.g dx)
                    clear dx
                    have dj' := hide (hg.dj oS.out dj.out)
                    replace oS := hide (hg.ow oS.out dj.out)
                    replace dj := dj'
                    replace kv := hide (ro_lowN kv.out hgv.out hb')
                    clear hg
                    replace oU := hide ho
                    refine hK.out _ _ (hide (hHeld.out.nextB hb')) (fun hHeld => ?_)
                    clear hK K
                    clear ho hb' ol
                    try simp only [Act.put, List.setIfInBounds_toArray, List.set_cons_zero, List.set_cons_succ]
                    refine wpAnyH_takeD (i := 11) (d := (some 105)) (v := ?_) rfl rfl (by kernel_rfl) (by kernel_rfl) (by kernel_rfl) (fun _ _ _ h => h) (Or.inl ⟨by rfl, ?_⟩) (by assumption) ?_
                    rotate_left
                    · ((intro w hSw; go_simp) <;> with_reducible rfl)
                    try simp only [Act.put, List.setIfInBounds_toArray, List.set_cons_zero, List.set_cons_succ]
                    refine wpAnyH_ready (rs := [12]) (by kernel_rfl) (by simp) ?_
                    refine AllReadyH.cons rfl (fun K hK => ?_) (AllReadyH.nil)
                    obtain ⟨y1, z1⟩ := ro_cf kv.out 6 _ rfl
                    go_simp
                    refine hK.out _ _ (hide (hHeld.out.set _)) (fun hHeld => ?_)
                    clear hK K
                    clear y1 z1
                    replace oT := hide (oT.out.butT kv.out (by decide) ((But.refl gv v4).set (o := 6) (.slice AU' (nU + 1) cU')))
                    replace oS := hide (oS.out.butT kv.out (by decide) ((But.refl gv v4).set (o := 6) (.slice AU' (nU + 1) cU')))
                    replace oU := hide (oU.out.butT kv.out (by decide) ((But.refl gv v4).set (o := 6) (.slice AU' (nU + 1) cU')))
                    replace kv := hide (show Ro (v4.setCell ⟨gv, 6, none⟩ (.slice AU' (nU + 1) cU')) gv #[.slice A0 n0 c0, .slice A1 n1 c1, .slice AT' (nT + 1) cT', .slice none 0 0, .slice none 0 0, .slice AS' (nS + 1) cS', .slice AU' (nU + 1) cU'] 28 from by have := ro_set kv.out 6 (.slice AU' (nU + 1) cU'); simpa using this)
                    generalize v4.setCell ⟨gv, 6, none⟩ (.slice AU' (nU + 1) cU') = v5 at *
                    try simp only [Act.put, List.setIfInBounds_toArray, List.set_cons_zero, List.set_cons_succ]
                    refine wpAnyH_done (by kernel_rfl) ?_ _
                    have bt := hHeld
                    clear hHeld
                    go_wp2_with fail
                    go_roundw
                    case rel => exact ⟨m + 1, nT + 1, nS + 1, nU + 1, cT', cS', cU', AT', AS', AU', by omega, by go_num, kv, by rw [hst.out, tcs_app, tcs_one]; exact oT, by rw [hsS.out, bls_app]; exact oS, by rw [hsU.out, bls_app]; exact oU, dj, bt⟩
                    case measure => simp [intOf]; omega
                  · go_simp
                    refine (OT2.out _).mono ?_
                    rintro e v9 ⟨rfl, rfl⟩
                    refine hK.out _ _ (hHeld) (fun hHeld => ?_)
                    clear hK K
                    try simp only [Act.put, List.setIfInBounds_toArray, List.set_cons_zero, List.set_cons_succ]
                    refine wpAnyH_takeD (i := 7) (d := (some 101)) (v := ?_) rfl rfl (by kernel_rfl) (by kernel_rfl) (by kernel_rfl) (fun _ _ _ h => h) (Or.inl ⟨by rfl, ?_⟩) (by assumption) ?_
                    rotate_left
                    · ((intro w hSw; go_simp) <;> with_reducible rfl)
                    try simp only [Act.put, List.setIfInBounds_toArray, List.set_cons_zero, List.set_cons_succ]
                    refine wpAnyH_takeD (i := 8) (d := (some 102)) (v := ?_) rfl rfl (by kernel_rfl) (by kernel_rfl) (by kernel_rfl) (fun _ _ _ h => h) (Or.inl ⟨by rfl, ?_⟩) (by assumption) ?_
                    rotate_left
                    · ((intro w hSw; have q_ := elU.out _ (But.down hb1.out hgw.out hSw.out); go_simp) <;> with_reducible rfl)
                    try simp only [Act.put, List.setIfInBounds_toArray, List.set_cons_zero, List.set_cons_succ]
                    refine wpAnyH_ready (rs := [1, 9]) (by kernel_rfl) (by simp) ?_
                    refine AllReadyH.cons rfl (fun K hK => ?_) (AllReadyH.cons rfl (fun K hK => ?_) (AllReadyH.nil))
                    · obtain ⟨y1, z1⟩ := ro_cf kv.out 6 _ rfl
                      go_simp
                      refine hK.out _ _ (hHeld) (fun hHeld => ?_)
                      clear hK K
                      clear y1 z1
                      try simp only [Act.put, List.setIfInBounds_toArray, List.set_cons_zero, List.set_cons_succ]
                      refine wpAnyH_ready (rs := [9]) (by kernel_rfl) (by simp) ?_
                      refine AllReadyH.cons rfl (fun K hK => ?_) (AllReadyH.nil)
                      go_simp
                      have ol := hide ((Ow.lit u0 4 [.bool u1] (by simp [maxLen])).rd)
                      replace kv := hide (kv.out.alloc (.cells #[.bool u1] 4))
                      replace oT := hide (oT.out.alloc (.cells #[.bool u1] 4))
                      replace oS := hide (oS.out.alloc (.cells #[.bool u1] 4))
                      replace oU := hide (oU.out.alloc (.cells #[.bool u1] 4))
                      refine hK.out _ _ (hide (hHeld.out.alloc (.cells #[.bool u1] 4))) (fun hHeld => ?_)
                      clear hK K
                      generalize u0.heap.size = gs at *
                      generalize u0.alloc (.cells #[.bool u1] 4) = v3 at *
                      try simp only [Act.put, List.setIfInBounds_toArray, List.set_cons_zero, List.set_cons_succ]
                      refine wpAnyH_ready (rs := [10]) (by kernel_rfl) (by simp) ?_
                      refine AllReadyH.cons rfl (fun K hK => ?_) (AllReadyH.nil)
                      refine step_apAG elBoR oU.out (Below.refl w2.heap.size v3) (Nat.le_refl _) ol.out (.tmp 95) (.tmp 103) rfl rfl rfl rfl (fun h => by cases h) one1.out apm.out apb.out (fun AU' cU' v4 ho hb' hg => ?_)
                      have dx := oT.out.ty.dj oU.out.ty (by decide)
                      replace oT := hide (own_grownK oT.out hg.g dx)
                      clear dx
                      have dj' := hide (hg.dj oS.out dj.out)
                      replace oS := hide (hg.ow oS.out dj.out)
                      replace dj := dj'
                      replace kv := hide (ro_lowN kv.out hgv.out hb')
                      clear hg
                      replace oU := hide ho
                      refine hK.out _ _ (hide (hHeld.out.nextB hb')) (fun hHeld => ?_)
                      clear hK K
                      clear ho hb' ol
                      try simp only [Act.put, List.setIfInBounds_toArray, List.set_cons_zero, List.set_cons_succ]
                      refine wpAnyH_takeD (i := 11) (d := (some 105)) (v := ?_) rfl rfl (by kernel_rfl) (by kernel_rfl) (by kernel_rfl) (fun _ _ _ h => h) (Or.inl ⟨by rfl, ?_⟩) (by assumption) ?_
                      rotate_left
                      · ((intro w hSw; go_simp) <;> with_reducible rfl)
                      try simp only [Act.put, List.setIfInBounds_toArray, List.set_cons_zero, List.set_cons_succ]
                      refine wpAnyH_ready (rs := [12]) (by kernel_rfl) (by simp) ?_
                      refine AllReadyH.cons rfl (fun K hK => ?_) (AllReadyH.nil)
                      obtain ⟨y1, z1⟩ := ro_cf kv.out 6 _ rfl
                      go_simp
                      refine hK.out _ _ (hide (hHeld.out.set _)) (fun hHeld => ?_)
                      clear hK K
                      clear y1 z1
                      replace oT := hide (oT.out.butT kv.out (by decide) ((But.refl gv v4).set (o := 6) (.slice AU' (nU + 1) cU')))
                      replace oS := hide (oS.out.butT kv.out (by decide) ((But.refl gv v4).set (o := 6) (.slice AU' (nU + 1) cU')))
                      replace oU := hide (oU.out.butT kv.out (by decide) ((But.refl gv v4).set (o := 6) (.slice AU' (nU + 1) cU')))
                      replace kv := hide (show Ro (v4.setCell ⟨gv, 6, none⟩ (.slice AU' (nU + 1) cU')) gv #[.slice A0 n0 c0, .slice A1 n1 c1, .slice AT' (nT + 1) cT', .slice none 0 0, .slice none 0 0, .slice AS' (nS + 1) cS', .slice AU' (nU + 1) cU'] 28 from by have := ro_set kv.out 6 (.slice AU' (nU + 1) cU'); simpa using this)
                      generalize v4.setCell ⟨gv, 6, none⟩ (.slice AU' (nU + 1) cU') = v5 at *
                      try simp only [Act.put, List.setIfInBounds_toArray, List.set_cons_zero, List.set_cons_succ]
                      refine wpAnyH_done (by kernel_rfl) ?_ _
                      have bt := hHeld
                      clear hHeld
                      go_wp2_with fail
                      go_roundw
                      case rel => exact ⟨m + 1, nT + 1, nS + 1, nU + 1, cT', cS', cU', AT', AS', AU', by omega, by go_num, kv, by rw [hst.out, tcs_app, tcs_one]; exact oT, by rw [hsS.out, bls_app]; exact oS, by rw [hsU.out, bls_app]; exact oU, dj, bt⟩
                      case measure => simp [intOf]; omega
                    · go_simp
                      have ol := hide ((Ow.lit u0 4 [.bool u1] (by simp [maxLen])).rd)
                      replace kv := hide (kv.out.alloc (.cells #[.bool u1] 4))
                      replace oT := hide (oT.out.alloc (.cells #[.bool u1] 4))
                      replace oS := hide (oS.out.alloc (.cells #[.bool u1] 4))
                      replace oU := hide (oU.out.alloc (.cells #[.bool u1] 4))
                      refine hK.out _ _ (hide (hHeld.out.alloc (.cells #[.bool u1] 4))) (fun hHeld => ?_)
                      clear hK K
                      generalize u0.heap.size = gs at *
                      generalize u0.alloc (.cells #[.bool u1] 4) = v2 at *
                      try simp only [Act.put, List.setIfInBounds_toArray, List.set_cons_zero, List.set_cons_succ]
                      refine wpAnyH_ready (rs := [1]) (by kernel_rfl) (by simp) ?_
                      refine AllReadyH.cons rfl (fun K hK => ?_) (AllReadyH.nil)
                      obtain ⟨y1, z1⟩ := ro_cf kv.out 6 _ rfl
                      go_simp
                      refine hK.out _ _ (hHeld) (fun hHeld => ?_)
                      clear hK K
                      clear y1 z1
                      try simp only [Act.put, List.setIfInBounds_toArray, List.set_cons_zero, List.set_cons_succ]
                      refine wpAnyH_ready (rs := [10]) (by kernel_rfl) (by simp) ?_
                      refine AllReadyH.cons rfl (fun K hK => ?_) (AllReadyH.nil)
                      refine step_apAG elBoR oU.out (Below.refl w2.heap.size v2) (Nat.le_refl _) ol.out (.tmp 95) (.tmp 103) rfl rfl rfl rfl (fun h => by cases h) one1.out apm.out apb.out (fun AU' cU' v4 ho hb' hg => ?_)
                      have dx := oT.out.ty.dj oU.out.ty (by decide)
                      replace oT := hide (own_grownK oT.out hg.g dx)
                      clear dx
                      have dj' := hide (hg.dj oS.out dj.out)
                      replace oS := hide (hg.ow oS.out dj.out)
                      replace dj := dj'
                      replace kv := hide (ro_lowN kv.out hgv.out hb')
                      clear hg
                      replace oU := hide ho
                      refine hK.out _ _ (hide (hHeld.out.nextB hb')) (fun hHeld => ?_)
                      clear hK K
                      clear ho hb' ol
                      try simp only [Act.put, List.setIfInBounds_toArray, List.set_cons_zero, List.set_cons_succ]
                      refine wpAnyH_takeD (i := 11) (d := (some 105)) (v := ?_) rfl rfl (by kernel_rfl) (by kernel_rfl) (by kernel_rfl) (fun _ _ _ h => h) (Or.inl ⟨by rfl, ?_⟩) (by assumption) ?_
                      rotate_left
                      · ((intro w hSw; go_simp) <;> with_reducible rfl)
                      try simp only [Act.put, List.setIfInBounds_toArray, List.set_cons_zero, List.set_cons_succ]
                      refine wpAnyH_ready (rs := [12]) (by kernel_rfl) (by simp) ?_
                      refine AllReadyH.cons rfl (fun K hK => ?_) (AllReadyH.nil)
                      obtain ⟨y1, z1⟩ := ro_cf kv.out 6 _ rfl
                      go_simp
                      refine hK.out _ _ (hide (hHeld.out.set _)) (fun hHeld => ?_)
                      clear hK K
                      clear y1 z1
                      replace oT := hide (oT.out.butT kv.out (by decide) ((But.refl gv v4).set (o := 6) (.slice AU' (nU + 1) cU')))
                      replace oS := hide (oS.out.butT kv.out (by decide) ((But.refl gv v4).set (o := 6) (.slice AU' (nU + 1) cU')))
                      replace oU := hide (oU.out.butT kv.out (by decide) ((But.refl gv v4).set (o := 6) (.slice AU' (nU + 1) cU')))
                      replace kv := hide (show Ro (v4.setCell ⟨gv, 6, none⟩ (.slice AU' (nU + 1) cU')) gv #[.slice A0 n0 c0, .slice A1 n1 c1, .slice AT' (nT + 1) cT', .slice none 0 0, .slice none 0 0, .slice AS' (nS + 1) cS', .slice AU' (nU + 1) cU'] 28 from by have := ro_set kv.out 6 (.slice AU' (nU + 1) cU'); simpa using this)
                      generalize v4.setCell ⟨gv, 6, none⟩ (.slice AU' (nU + 1) cU') = v5 at *
                      try simp only [Act.put, List.setIfInBounds_toArray, List.set_cons_zero, List.set_cons_succ]
                      refine wpAnyH_done (by kernel_rfl) ?_ _
                      have bt := hHeld
                      clear hHeld
                      go_wp2_with fail
                      go_roundw
                      case rel => exact ⟨m + 1, nT + 1, nS + 1, nU + 1, cT', cS', cU', AT', AS', AU', by omega, by go_num, kv, by rw [hst.out, tcs_app, tcs_one]; exact oT, by rw [hsS.out, bls_app]; exact oS, by rw [hsU.out, bls_app]; exact oU, dj, bt⟩
                      case measure => simp [intOf]; omega
              · go_simp
                refine (OT2.out _).mono ?_
                rintro e v9 ⟨rfl, rfl⟩
                refine hK.out _ _ (hHeld) (fun hHeld => ?_)
                clear hK K
                try simp only [Act.put, List.setIfInBounds_toArray, List.set_cons_zero, List.set_cons_succ]
                refine wpAnyH_takeD (i := 7) (d := (some 85)) (v := ?_) rfl rfl (by kernel_rfl) (by kernel_rfl) (by kernel_rfl) (fun _ _ _ h => h) (Or.inl ⟨by rfl, ?_⟩) (by assumption) ?_
                rotate_left
                · ((intro w hSw; go_simp) <;> with_reducible rfl)
                try simp only [Act.put, List.setIfInBounds_toArray, List.set_cons_zero, List.set_cons_succ]
                refine wpAnyH_takeD (i := 8) (d := (some 86)) (v := ?_) rfl rfl (by kernel_rfl) (by kernel_rfl) (by kernel_rfl) (fun _ _ _ h => h) (Or.inl ⟨by rfl, ?_⟩) (by assumption) ?_
                rotate_left
                · ((intro w hSw; have q_ := elU.out _ (But.down hb1.out hgw.out hSw.out); go_simp) <;> with_reducible rfl)
                try simp only [Act.put, List.setIfInBounds_toArray, List.set_cons_zero, List.set_cons_succ]
                refine wpAnyH_ready (rs := [1, 9]) (by kernel_rfl) (by simp) ?_
                refine AllReadyH.cons rfl (fun K hK => ?_) (AllReadyH.cons rfl (fun K hK => ?_) (AllReadyH.nil))
                · obtain ⟨y1, z1⟩ := ro_cf kv.out 5 _ rfl
                  go_simp
                  refine hK.out _ _ (hHeld) (fun hHeld => ?_)
                  clear hK K
                  clear y1 z1
                  try simp only [Act.put, List.setIfInBounds_toArray, List.set_cons_zero, List.set_cons_succ]
                  refine wpAnyH_ready (rs := [9]) (by kernel_rfl) (by simp) ?_
                  refine AllReadyH.cons rfl (fun K hK => ?_) (AllReadyH.nil)
                  go_simp
                  have ol := hide ((Ow.lit u0 4 [.bool u1] (by simp [maxLen])).rd)
                  replace kv := hide (kv.out.alloc (.cells #[.bool u1] 4))
                  replace oT := hide (oT.out.alloc (.cells #[.bool u1] 4))
                  replace oS := hide (oS.out.alloc (.cells #[.bool u1] 4))
                  replace oU := hide (oU.out.alloc (.cells #[.bool u1] 4))
                  refine hK.out _ _ (hide (hHeld.out.alloc (.cells #[.bool u1] 4))) (fun hHeld => ?_)
                  clear hK K
                  generalize u0.heap.size = gs at *
                  generalize u0.alloc (.cells #[.bool u1] 4) = v3 at *
                  try simp only [Act.put, List.setIfInBounds_toArray, List.set_cons_zero, List.set_cons_succ]
                  refine wpAnyH_ready (rs := [10]) (by kernel_rfl) (by simp) ?_
                  refine AllReadyH.cons rfl (fun K hK => ?_) (AllReadyH.nil)
                  refine step_apAG elBoR oS.out (Below.refl w2.heap.size v3) (Nat.le_refl _) ol.out (.tmp 79) (.tmp 87) rfl rfl rfl rfl (fun h => by cases h) one1.out apm.out apb.out (fun AS' cS' v4 ho hb' hg => ?_)
                  have dx := oT.out.ty.dj oS.out.ty (by decide)
                  replace oT := hide (own_grownK oT.out hg.g dx)
                  clear dx
                  have dj' := hide (hg.dj oU.out dj.out.symm).symm
                  replace oU := hide (hg.ow oU.out dj.out.symm)
                  replace dj := dj'
                  replace kv := hide (ro_lowN kv.out hgv.out hb')
                  clear hg
                  replace oS := hide ho
                  refine hK.out _ _ (hide (hHeld.out.nextB hb')) (fun hHeld => ?_)
                  clear hK K
                  clear ho hb' ol
                  try simp only [Act.put, List.setIfInBounds_toArray, List.set_cons_zero, List.set_cons_succ]
                  refine wpAnyH_takeD (i := 11) (d := (some 89)) (v := ?_) rfl rfl (by kernel_rfl) (by kernel_rfl) (by kernel_rfl) (fun _ _ _ h => h) (Or.inl ⟨by rfl, ?_⟩) (by assumption) ?_
                  rotate_left
                  · ((intro w hSw; go_simp) <;> with_reducible rfl)
                  try simp only [Act.put, List.setIfInBounds_toArray, List.set_cons_zero, List.set_cons_succ]
                  refine wpAnyH_ready (rs := [12]) (by kernel_rfl) (by simp) ?_
                  refine AllReadyH.cons rfl (fun K hK => ?_) (AllReadyH.nil)
                  obtain ⟨y1, z1⟩ := ro_cf kv.out 5 _ rfl
                  go_simp
                  refine hK.out _ _ (hide (hHeld.out.set _)) (fun hHeld => ?_)
                  clear hK K
                  clear y1 z1
                  replace oT := hide (oT.out.butT kv.out (by decide) ((But.refl gv v4).set (o := 5) (.slice AS' (nS + 1) cS')))
                  replace oS := hide (oS.out.butT kv.out (by decide) ((But.refl gv v4).set (o := 5) (.slice AS' (nS + 1) cS')))
                  replace oU := hide (oU.out.butT kv.out (by decide) ((But.refl gv v4).set (o := 5) (.slice AS' (nS + 1) cS')))
                  replace kv := hide (show Ro (v4.setCell ⟨gv, 5, none⟩ (.slice AS' (nS + 1) cS')) gv #[.slice A0 n0 c0, .slice A1 n1 c1, .slice AT' (nT + 1) cT', .slice none 0 0, .slice none 0 0, .slice AS' (nS + 1) cS', .slice AU nU cU] 28 from by have := ro_set kv.out 5 (.slice AS' (nS + 1) cS'); simpa using this)
                  generalize v4.setCell ⟨gv, 5, none⟩ (.slice AS' (nS + 1) cS') = v5 at *
                  try simp only [Act.put, List.setIfInBounds_toArray, List.set_cons_zero, List.set_cons_succ]
                  refine wpAnyH_done (by kernel_rfl) ?_ _
                  have bt := hHeld
                  clear hHeld
                  clear elU k6d hun d7 d8 d9 hlU hu0
                  go_upto_region 15 with fail
                  obtain ⟨y6, _⟩ := ro_cf (ro_but k.out bt.out hkv.out) 6 _ k6c.out
                  rcases Hut.out with ⟨hu0, hu1⟩ | ⟨hu0, hu1⟩
                  · have hsU := hide (show bls ((swp b.ut kn false).take (m + 1)) = bls ((swp b.ut kn false).take m) by rw [hu1]; simp [swp])
                    rw [hu0] at y6
                    clear hu1
                    go_wp2_with fail
                    go_roundw
                    case rel => exact ⟨m + 1, nT + 1, nS + 1, nU, cT', cS', cU, AT', AS', AU, by omega, by go_num, kv, by rw [hst.out, tcs_app, tcs_one]; exact oT, by rw [hsS.out, bls_app]; exact oS, by rw [hsU.out]; exact oU, dj, bt⟩
                    case measure => simp [intOf]; omega
                  · obtain ⟨u1, hu2, hu3⟩ := gB.out b.ut hu1 m hlt
                    have hun : oi < S.ut.n := by rw [hu0]; exact hoi
                    have d7 : decide ((0 : Int) < (S.ut.n : Int)) = true := decide_eq_true (by omega)
                    have d8 : (oi : Int) < (S.ut.n : Int) := by omega
                    have d9 : (0 : Int) < (S.ut.n : Int) := by omega
                    obtain ⟨adU, _, e6, _⟩ := (hR.out _ (But.down hb1.out hgw.out bt.out)).ut.at_ hun
                    have k6d := hide (show cs[6]? = some (.slice (some adU) S.ut.n S.ut.c) by rw [← e6]; exact k6c.out)
                    rw [hoi'] at hu2
                    have elU := hide (show ∀ W, Below w.heap.size w W → W.cell? (adU.add oi) = some (.bool u1) from fun W hB => by
                      obtain ⟨ad', v, e', hv, c_⟩ := (hR.out W hB).ut.at_ hun
                      rw [e6] at e'
                      cases e'
                      rw [List.getElem?_map, hu2] at hv
                      cases hv
                      exact c_)
                    have hsU := hide hu3
                    clear hu1 hu2 hu3 e6
                    replace one1 := hide (show ∀ u ∈ [Value.bool u1], u.oneCell' = true by simp [Value.oneCell'])
                    have hlU : nU ≤ m := by have := oU.out.len; simp at this; omega
                    replace apm := hide (show nU + 1 ≤ maxLen by simp [maxLen]; omega)
                    replace apb := hide (show (nU + 1) * 1 ≤ 140737488355328 by omega)
                    go_upto_region 16 with fail
                    clear y6
                    replace kv := hide kv.out.drew
                    replace oT := hide oT.out.drew
                    replace oS := hide oS.out.drew
                    replace oU := hide oU.out.drew
                    refine wp_region_held_drew (S := fun w' => Hid (But gv w2 w')) (by kernel_rfl) (hide bt.out.drew) (fun hHeld => ?_)
                    generalize v5.drew = u0 at *
                    refine wpAnyH_takeD (i := 0) (d := (some 94)) (v := ?_) rfl rfl (by kernel_rfl) (by kernel_rfl) (by kernel_rfl) (fun _ _ _ h => h) (Or.inl ⟨by rfl, ?_⟩) (by assumption) ?_
                    rotate_left
                    · ((intro w hSw; go_simp) <;> with_reducible rfl)
                    try simp only [Act.put, List.setIfInBounds_toArray, List.set_cons_zero, List.set_cons_succ]
                    refine wpAnyH_takeD (i := 2) (d := (some 96)) (v := ?_) rfl rfl (by kernel_rfl) (by kernel_rfl) (by kernel_rfl) (fun _ _ _ h => h) (Or.inl ⟨by rfl, ?_⟩) (by assumption) ?_
                    rotate_left
                    · ((intro w hSw; go_simp) <;> with_reducible rfl)
                    try simp only [Act.put, List.setIfInBounds_toArray, List.set_cons_zero, List.set_cons_succ]
                    refine wpAnyH_takeD (i := 3) (d := (some 97)) (v := ?_) rfl rfl (by kernel_rfl) (by kernel_rfl) (by kernel_rfl) (fun _ _ _ h => h) (Or.inl ⟨by rfl, ?_⟩) (by assumption) ?_
                    rotate_left
                    · ((intro w hSw; obtain ⟨q_, _⟩ := ro_cf (ro_but k.out hSw.out hkv.out) 6 _ k6d.out; go_simp) <;> with_reducible rfl)
                    try simp only [Act.put, List.setIfInBounds_toArray, List.set_cons_zero, List.set_cons_succ]
                    refine wpAnyH_takeD (i := 4) (d := (some 98)) (v := ?_) rfl rfl (by kernel_rfl) (by kernel_rfl) (by kernel_rfl) (fun _ _ _ h => h) (Or.inl ⟨by rfl, ?_⟩) (by assumption) ?_
                    rotate_left
                    · ((intro w hSw; go_simp) <;> with_reducible rfl)
                    try simp only [Act.put, List.setIfInBounds_toArray, List.set_cons_zero, List.set_cons_succ]
                    refine wpAnyH_takeD (i := 5) (d := (some 99)) (v := ?_) rfl rfl (by kernel_rfl) (by kernel_rfl) (by kernel_rfl) (fun _ _ _ h => h) (Or.inl ⟨by rfl, ?_⟩) (by assumption) ?_
                    rotate_left
                    · ((intro w hSw; go_simp) <;> with_reducible rfl)
                    try simp only [Act.put, List.setIfInBounds_toArray, List.set_cons_zero, List.set_cons_succ]
                    refine wpAnyH_ready (rs := [1, 6]) (by kernel_rfl) (by simp) ?_
                    refine AllReadyH.cons rfl (fun K hK => ?_) (AllReadyH.cons rfl (fun K hK => ?_) (AllReadyH.nil))
                    · obtain ⟨y1, z1⟩ := ro_cf kv.out 6 _ rfl
                      go_simp
                      refine hK.out _ _ (hHeld) (fun hHeld => ?_)
                      clear hK K
                      clear y1 z1
                      try simp only [Act.put, List.setIfInBounds_toArray, List.set_cons_zero, List.set_cons_succ]
                      refine wpAnyH_ready (rs := [6]) (by kernel_rfl) (by simp) ?_
                      refine AllReadyH.cons rfl (fun K hK => ?_) (AllReadyH.nil)
                      go_simp
                      refine (OT2.out _).mono ?_
                      rintro e v9 ⟨rfl, rfl⟩
                      refine hK.out _ _ (hHeld) (fun hHeld => ?_)
                      clear hK K
                      try simp only [Act.put, List.setIfInBounds_toArray, List.set_cons_zero, List.set_cons_succ]
                      refine wpAnyH_takeD (i := 7) (d := (some 101)) (v := ?_) rfl rfl (by kernel_rfl) (by kernel_rfl) (by kernel_rfl) (fun _ _ _ h => h) (Or.inl ⟨by rfl, ?_⟩) (by assumption) ?_
                      rotate_left
                      · ((intro w hSw; go_simp) <;> with_reducible rfl)
                      try simp only [Act.put, List.setIfInBounds_toArray, List.set_cons_zero, List.set_cons_succ]
                      refine wpAnyH_takeD (i := 8) (d := (some 102)) (v := ?_) rfl rfl (by kernel_rfl) (by kernel_rfl) (by kernel_rfl) (fun _ _ _ h => h) (Or.inl ⟨by rfl, ?_⟩) (by assumption) ?_
                      rotate_left
                      · ((intro w hSw; have q_ := elU.out _ (But.down hb1.out hgw.out hSw.out); go_simp) <;> with_reducible rfl)
                      try simp only [Act.put, List.setIfInBounds_toArray, List.set_cons_zero, List.set_cons_succ]
                      refine wpAnyH_ready (rs := [9]) (by kernel_rfl) (by simp) ?_
                      refine AllReadyH.cons rfl (fun K hK => ?_) (AllReadyH.nil)
                      go_simp
                      have ol := hide ((Ow.lit u0 4 [.bool u1] (by simp [maxLen])).rd)
                      replace kv := hide (kv.out.alloc (.cells #[.bool u1] 4))
                      replace oT := hide (oT.out.alloc (.cells #[.bool u1] 4))
                      replace oS := hide (oS.out.alloc (.cells #[.bool u1] 4))
                      replace oU := hide (oU.out.alloc (.cells #[.bool u1] 4))
                      refine hK.out _ _ (hide (hHeld.out.alloc (.cells #[.bool u1] 4))) (fun hHeld => ?_)
                      clear hK K
                      generalize u0.heap.size = gs at *
                      generalize u0.alloc (.cells #[.bool u1] 4) = v3 at *
                      try simp only [Act.put, List.setIfInBounds_toArray, List.set_cons_zero, List.set_cons_succ]
                      refine wpAnyH_ready (rs := [10]) (by kernel_rfl) (by simp) ?_
                      refine AllReadyH.cons rfl (fun K hK => ?_) (AllReadyH.nil)
                      refine step_apAG elBoR oU.out (Below.refl w2.heap.size v3) (Nat.le_refl _) ol.out (.tmp 95) (.tmp 103) rfl rfl rfl rfl (fun h => by cases h) one1.out apm.out apb.out (fun AU' cU' v4 ho hb' hg => ?_)
                      have dx := oT.out.ty.dj oU.out.ty (by decide)
                      replace oT := hide (own_grownK oT.out hg.g dx)
                      clear dx
                      have dj' := hide (hg.dj oS.out dj.out)
                      replace oS := hide (hg.ow oS.out dj.out)
                      replace dj := dj'
                      replace kv := hide (ro_lowN kv.out hgv.out hb')
                      clear hg
                      replace oU := hide ho
                      refine hK.out _ _ (hide (hHeld.out.nextB hb')) (fun hHeld => ?_)
                      clear hK K
                      clear ho hb' ol
                      try simp only [Act.put, List.setIfInBounds_toArray, List.set_cons_zero, List.set_cons_succ]
                      refine wpAnyH_takeD (i := 11) (d := (some 105)) (v := ?_) rfl rfl (by kernel_rfl) (by kernel_rfl) (by kernel_rfl) (fun _ _ _ h => h) (Or.inl ⟨by rfl, ?_⟩) (by assumption) ?_
                      rotate_left
                      · ((intro w hSw; go_simp) <;> with_reducible rfl)
                      try simp only [Act.put, List.setIfInBounds_toArray, List.set_cons_zero, List.set_cons_succ]
                      refine wpAnyH_ready (rs := [12]) (by kernel_rfl) (by simp) ?_
                      refine AllReadyH.cons rfl (fun K hK => ?_) (AllReadyH.nil)
                      obtain ⟨y1, z1⟩ := ro_cf kv.out 6 _ rfl
                      go_simp
                      refine hK.out _ _ (hide (hHeld.out.set _)) (fun hHeld => ?_)
                      clear hK K
                      clear y1 z1
                      replace oT := hide (oT.out.butT kv.out (by decide) ((But.refl gv v4).set (o := 6) (.slice AU' (nU + 1) cU')))
                      replace oS := hide (oS.out.butT kv.out (by decide) ((But.refl gv v4).set (o := 6) (.slice AU' (nU + 1) cU')))
                      replace oU := hide (oU.out.butT kv.out (by decide) ((But.refl gv v4).set (o := 6) (.slice AU' (nU + 1) cU')))
                      replace kv := hide (show Ro (v4.setCell ⟨gv, 6, none⟩ (.slice AU' (nU + 1) cU')) gv #[.slice A0 n0 c0, .slice A1 n1 c1, .slice AT' (nT + 1) cT', .slice none 0 0, .slice none 0 0, .slice AS' (nS + 1) cS', .slice AU' (nU + 1) cU'] 28 from by have := ro_set kv.out 6 (.slice AU' (nU + 1) cU'); simpa using this)
                      generalize v4.setCell ⟨gv, 6, none⟩ (.slice AU' (nU + 1) cU') = v5 at *
                      try simp only [Act.put, List.setIfInBounds_toArray, List.set_cons_zero, List.set_cons_succ]
                      refine wpAnyH_done (by kernel_rfl) ?_ _
                      have bt := hHeld
                      clear hHeld
                      go_wp2_with fail
                      go_roundw
                      case rel => exact ⟨m + 1, nT + 1, nS + 1, nU + 1, cT', cS', cU', AT', AS', AU', by omega, by go_num, kv, by rw [hst.out, tcs_app, tcs_one]; exact oT, by rw [hsS.out, bls_app]; exact oS, by rw [hsU.out, bls_app]; exact oU, dj, bt⟩
                      case measure => simp [intOf]; omega
                    · go_simp
                      refine (OT2.out _).mono ?_
                      rintro e v9 ⟨rfl, rfl⟩
                      refine hK.out _ _ (hHeld) (fun hHeld => ?_)
                      clear hK K
                      try simp only [Act.put, List.setIfInBounds_toArray, List.set_cons_zero, List.set_cons_succ]
                      refine wpAnyH_takeD (i := 7) (d := (some 101)) (v := ?_) rfl rfl (by kernel_rfl) (by kernel_rfl) (by kernel_rfl) (fun _ _ _ h => h) (Or.inl ⟨by rfl, ?_⟩) (by assumption) ?_
                      rotate_left
                      · ((intro w hSw; go_simp) <;> with_reducible rfl)
                      try simp only [Act.put, List.setIfInBounds_toArray, List.set_cons_zero, List.set_cons_succ]
                      refine wpAnyH_takeD (i := 8) (d := (some 102)) (v := ?_) rfl rfl (by kernel_rfl) (by kernel_rfl) (by kernel_rfl) (fun _ _ _ h => h) (Or.inl ⟨by rfl, ?_⟩) (by assumption) ?_
                      rotate_left
                      · ((intro w hSw; have q_ := elU.out _ (But.down hb1.out hgw.out hSw.out); go_simp) <;> with_reducible rfl)
                      try simp only [Act.put, List.setIfInBounds_toArray, List.set_cons_zero, List.set_cons_succ]
                      refine wpAnyH_ready (rs := [1, 9]) (by kernel_rfl) (by simp) ?_
                      refine AllReadyH.cons rfl (fun K hK => ?_) (AllReadyH.cons rfl (fun K hK => ?_) (AllReadyH.nil))
                      · obtain ⟨y1, z1⟩ := ro_cf kv.out 6 _ rfl
                        go_simp
                        refine hK.out _ _ (hHeld) (fun hHeld => ?_)
                        clear hK K
                        clear y1 z1
                        try simp only [Act.put, List.setIfInBounds_toArray, List.set_cons_zero, List.set_cons_succ]
                        refine wpAnyH_ready (rs := [9]) (by kernel_rfl) (by simp) ?_
                        refine AllReadyH.cons rfl (fun K hK => ?_) (AllReadyH.nil)
                        go_simp
                        have ol := hide ((Ow.lit u0 4 [.bool u1] (by simp [maxLen])).rd)
                        replace kv := hide (kv.out.alloc (.cells #[.bool u1] 4))
                        replace oT := hide (oT.out.alloc (.cells #[.bool u1] 4))
                        replace oS := hide (oS.out.alloc (.cells #[.bool u1] 4))
                        replace oU := hide (oU.out.alloc (.cells #[.bool u1] 4))
                        refine hK.out _ _ (hide (hHeld.out.alloc (.cells #[.bool u1] 4))) (fun hHeld => ?_)
                        clear hK K
                        generalize u0.heap.size = gs at *
                        generalize u0.alloc (.cells #[.bool u1] 4) = v3 at *
                        try simp only [Act.put, List.setIfInBounds_toArray, List.set_cons_zero, List.set_cons_succ]
                        refine wpAnyH_ready (rs := [10]) (by kernel_rfl) (by simp) ?_
                        refine AllReadyH.cons rfl (fun K hK => ?_) (AllReadyH.nil)
                        refine step_apAG elBoR oU.out (Below.refl w2.heap.size v3) (Nat.le_refl _) ol.out (.tmp 95) (.tmp 103) rfl rfl rfl rfl (fun h => by cases h) one1.out apm.out apb.out (fun AU' cU' v4 ho hb' hg => ?_)
                        have dx := oT.out.ty.dj oU.out.ty (by decide)
                        replace oT := hide (own_grownK oT.out hg.g dx)
                        clear dx
                        have dj' := hide (hg.dj oS.out dj.out)
                        replace oS := hide (hg.ow oS.out dj.out)
                        replace dj := dj'
                        replace kv := hide (ro_lowN kv.out hgv.out hb')
                        clear hg
                        replace oU := hide ho
                        refine hK.out _ _ (hide (hHeld.out.nextB hb')) (fun hHeld => ?_)
                        clear hK K
                        clear ho hb' ol
                        try simp only [Act.put, List.setIfInBounds_toArray, List.set_cons_zero, List.set_cons_succ]
                        refine wpAnyH_takeD (i := 11) (d := (some 105)) (v := ?_) rfl rfl (by kernel_rfl) (by kernel_rfl) (by kernel_rfl) (fun _ _ _ h => h) (Or.inl ⟨by rfl, ?_⟩) (by assumption) ?_
                        rotate_left
                        · ((intro w hSw; go_simp) <;> with_reducible rfl)
                        try simp only [Act.put, List.setIfInBounds_toArray, List.set_cons_zero, List.set_cons_succ]
                        refine wpAnyH_ready (rs := [12]) (by kernel_rfl) (by simp) ?_
                        refine AllReadyH.cons rfl (fun K hK => ?_) (AllReadyH.nil)
                        obtain ⟨y1, z1⟩ := ro_cf kv.out 6 _ rfl
                        go_simp
                        refine hK.out _ _ (hide (hHeld.out.set _)) (fun hHeld => ?_)
                        clear hK K
                        clear y1 z1
                        replace oT := hide (oT.out.butT kv.out (by decide) ((But.refl gv v4).set (o := 6) (.slice AU' (nU + 1) cU')))
                        replace oS := hide (oS.out.butT kv.out (by decide) ((But.refl gv v4).set (o := 6) (.slice AU' (nU + 1) cU')))
                        replace oU := hide (oU.out.butT kv.out (by decide) ((But.refl gv v4).set (o := 6) (.slice AU' (nU + 1) cU')))
                        replace kv := hide (show Ro (v4.setCell ⟨gv, 6, none⟩ (.slice AU' (nU + 1) cU')) gv #[.slice A0 n0 c0, .slice A1 n1 c1, .slice AT' (nT + 1) cT', .slice none 0 0, .slice none 0 0, .slice AS' (nS + 1) cS', .slice AU' (nU + 1) cU'] 28 from by have := ro_set kv.out 6 (.slice AU' (nU + 1) cU'); simpa using this)
                        generalize v4.setCell ⟨gv, 6, none⟩ (.slice AU' (nU + 1) cU') = v5 at *
                        try simp only [Act.put, List.setIfInBounds_toArray, List.set_cons_zero, List.set_cons_succ]
                        refine wpAnyH_done (by kernel_rfl) ?_ _
                        have bt := hHeld
                        clear hHeld
                        go_wp2_with fail
                        go_roundw
                        case rel => exact ⟨m + 1, nT + 1, nS + 1, nU + 1, cT', cS', cU', AT', AS', AU', by omega, by go_num, kv, by rw [hst.out, tcs_app, tcs_one]; exact oT, by rw [hsS.out, bls_app]; exact oS, by rw [hsU.out, bls_app]; exact oU, dj, bt⟩
                        case measure => simp [intOf]; omega
                      · go_simp
                        have ol := hide ((Ow.lit u0 4 [.bool u1] (by simp [maxLen])).rd)
                        replace kv := hide (kv.out.alloc (.cells #[.bool u1] 4))
                        replace oT := hide (oT.out.alloc (.cells #[.bool u1] 4))
                        replace oS := hide (oS.out.alloc (.cells #[.bool u1] 4))
                        replace oU := hide (oU.out.alloc (.cells #[.bool u1] 4))
                        refine hK.out _ _ (hide (hHeld.out.alloc (.cells #[.bool u1] 4))) (fun hHeld => ?_)
                        clear hK K
                        generalize u0.heap.size = gs at *
                        generalize u0.alloc (.cells #[.bool u1] 4) = v2 at *
                        try simp only [Act.put, List.setIfInBounds_toArray, List.set_cons_zero, List.set_cons_succ]
                        refine wpAnyH_ready (rs := [1]) (by kernel_rfl) (by simp) ?_
                        refine AllReadyH.cons rfl (fun K hK => ?_) (AllReadyH.nil)
                        obtain ⟨y1, z1⟩ := ro_cf kv.out 6 _ rfl
                        go_simp
                        refine hK.out _ _ (hHeld) (fun hHeld => ?_)
                        clear hK K
                        clear y1 z1
                        try simp only [Act.put, List.setIfInBounds_toArray, List.set_cons_zero, List.set_cons_succ]
                        refine wpAnyH_ready (rs := [10]) (by kernel_rfl) (by simp) ?_
                        refine AllReadyH.cons rfl (fun K hK => ?_) (AllReadyH.nil)
                        refine step_apAG elBoR oU.out (Below.refl w2.heap.size v2) (Nat.le_refl _) ol.out (.tmp 95) (.tmp 103) rfl rfl rfl rfl (fun h => by cases h) one1.out apm.out apb.out (fun AU' cU' v4 ho hb' hg => ?_)
                        have dx := oT.out.ty.dj oU.out.ty (by decide)
                        replace oT := hide (own_grownK oT.out hg.g dx)
                        clear dx
                        have dj' := hide (hg.dj oS.out dj.out)
                        replace oS := hide (hg.ow oS.out dj.out)
                        replace dj := dj'
                        replace kv := hide (ro_lowN kv.out hgv.out hb')
                        clear hg
                        replace oU := hide ho
                        refine hK.out _ _ (hide (hHeld.out.nextB hb')) (fun hHeld => ?_)
                        clear hK K
                        clear ho hb' ol
                        try simp only [Act.put, List.setIfInBounds_toArray, List.set_cons_zero, List.set_cons_succ]
                        refine wpAnyH_takeD (i := 11) (d := (some 105)) (v := ?_) rfl rfl (by kernel_rfl) (by kernel_rfl) (by kernel_rfl) (fun _ _ _ h => h) (Or.inl ⟨by rfl, ?_⟩) (by assumption) ?_
                        rotate_left
                        · ((intro w hSw; go_simp) <;> with_reducible rfl)
                        try simp only [Act.put, List.setIfInBounds_toArray, List.set_cons_zero, List.set_cons_succ]
                        refine wpAnyH_ready (rs := [12]) (by kernel_rfl) (by simp) ?_
                        refine AllReadyH.cons rfl (fun K hK => ?_) (AllReadyH.nil)
                        obtain ⟨y1, z1⟩ := ro_cf kv.out 6 _ rfl
                        go_simp
                        refine hK.out _ _ (hide (hHeld.out.set _)) (fun hHeld => ?_)
                        clear hK K
                        clear y1 z1
                        replace oT := hide (oT.out.butT kv.out (by decide) ((But.refl gv v4).set (o := 6) (.slice AU' (nU + 1) cU')))
                        replace oS := hide (oS.out.butT kv.out (by decide) ((But.refl gv v4).set (o := 6) (.slice AU' (nU + 1) cU')))
                        replace oU := hide (oU.out.butT kv.out (by decide) ((But.refl gv v4).set (o := 6) (.slice AU' (nU + 1) cU')))
                        replace kv := hide (show Ro (v4.setCell ⟨gv, 6, none⟩ (.slice AU' (nU + 1) cU')) gv #[.slice A0 n0 c0, .slice A1 n1 c1, .slice AT' (nT + 1) cT', .slice none 0 0, .slice none 0 0, .slice AS' (nS + 1) cS', .slice AU' (nU + 1) cU'] 28 from by have := ro_set kv.out 6 (.slice AU' (nU + 1) cU'); simpa using this)
                        generalize v4.setCell ⟨gv, 6, none⟩ (.slice AU' (nU + 1) cU') = v5 at *
                        try simp only [Act.put, List.setIfInBounds_toArray, List.set_cons_zero, List.set_cons_succ]
                        refine wpAnyH_done (by kernel_rfl) ?_ _
                        have bt := hHeld
                        clear hHeld
                        go_wp2_with fail
                        go_roundw
                        case rel => exact ⟨m + 1, nT + 1, nS + 1, nU + 1, cT', cS', cU', AT', AS', AU', by omega, by go_num, kv, by rw [hst.out, tcs_app, tcs_one]; exact oT, by rw [hsS.out, bls_app]; exact oS, by rw [hsU.out, bls_app]; exact oU, dj, bt⟩
                        case measure => simp [intOf]; omega
                · go_simp
                  have ol := hide ((Ow.lit u0 4 [.bool u1] (by simp [maxLen])).rd)
                  replace kv := hide (kv.out.alloc (.cells #[.bool u1] 4))
                  replace oT := hide (oT.out.alloc (.cells #[.bool u1] 4))
                  replace oS := hide (oS.out.alloc (.cells #[.bool u1] 4))
                  replace oU := hide (oU.out.alloc (.cells #[.bool u1] 4))
                  refine hK.out _ _ (hide (hHeld.out.alloc (.cells #[.bool u1] 4))) (fun hHeld => ?_)
                  clear hK K
                  generalize u0.heap.size = gs at *
                  generalize u0.alloc (.cells #[.bool u1] 4) = v2 at *
                  try simp only [Act.put, List.setIfInBounds_toArray, List.set_cons_zero, List.set_cons_succ]
                  refine wpAnyH_ready (rs := [1]) (by kernel_rfl) (by simp) ?_
                  refine AllReadyH.cons rfl (fun K hK => ?_) (AllReadyH.nil)
                  obtain ⟨y1, z1⟩ := ro_cf kv.out 5 _ rfl
                  go_simp
                  refine hK.out _ _ (hHeld) (fun hHeld => ?_)
                  clear hK K
                  clear y1 z1
                  try simp only [Act.put, List.setIfInBounds_toArray, List.set_cons_zero, List.set_cons_succ]
                  refine wpAnyH_ready (rs := [10]) (by kernel_rfl) (by simp) ?_
                  refine AllReadyH.cons rfl (fun K hK => ?_) (AllReadyH.nil)
                  refine step_apAG elBoR oS.out (Below.refl w2.heap.size v2) (Nat.le_refl _) ol.out (.tmp 79) (.tmp 87) rfl rfl rfl rfl (fun h => by cases h) one1.out apm.out apb.out (fun AS' cS' v4 ho hb' hg => ?_)
                  have dx := oT.out.ty.dj oS.out.ty (by decide)
                  replace oT := hide (own_grownK oT.out hg.g dx)
                  clear dx
                  have dj' := hide (hg.dj oU.out dj.out.symm).symm
                  replace oU := hide (hg.ow oU.out dj.out.symm)
                  replace dj := dj'
                  replace kv := hide (ro_lowN kv.out hgv.out hb')
                  clear hg
                  replace oS := hide ho
                  refine hK.out _ _ (hide (hHeld.out.nextB hb')) (fun hHeld => ?_)
                  clear hK K
                  clear ho hb' ol
                  try simp only [Act.put, List.setIfInBounds_toArray, List.set_cons_zero, List.set_cons_succ]
                  refine wpAnyH_takeD (i := 11) (d := (some 89)) (v := ?_) rfl rfl (by kernel_rfl) (by kernel_rfl) (by kernel_rfl) (fun _ _ _ h => h) (Or.inl ⟨by rfl, ?_⟩) (by assumption) ?_
                  rotate_left
                  · ((intro w hSw; go_simp) <;> with_reducible rfl)
                  try simp only [Act.put, List.setIfInBounds_toArray, List.set_cons_zero, List.set_cons_succ]
                  refine wpAnyH_ready (rs := [12]) (by kernel_rfl) (by simp) ?_
                  refine AllReadyH.cons rfl (fun K hK => ?_) (AllReadyH.nil)
                  obtain ⟨y1, z1⟩ := ro_cf kv.out 5 _ rfl
                  go_simp
                  refine hK.out _ _ (hide (hHeld.out.set _)) (fun hHeld => ?_)
                  clear hK K
                  clear y1 z1
                  replace oT := hide (oT.out.butT kv.out (by decide) ((But.refl gv v4).set (o := 5) (.slice AS' (nS + 1) cS')))
                  replace oS := hide (oS.out.butT kv.out (by decide) ((But.refl gv v4).set (o := 5) (.slice AS' (nS + 1) cS')))
                  replace oU := hide (oU.out.butT kv.out (by decide) ((But.refl gv v4).set (o := 5) (.slice AS' (nS + 1) cS')))
                  replace kv := hide (show Ro (v4.setCell ⟨gv, 5, none⟩ (.slice AS' (nS + 1) cS')) gv #[.slice A0 n0 c0, .slice A1 n1 c1, .slice AT' (nT + 1) cT', .slice none 0 0, .slice none 0 0, .slice AS' (nS + 1) cS', .slice AU nU cU] 28 from by have := ro_set kv.out 5 (.slice AS' (nS + 1) cS'); simpa using this)
                  generalize v4.setCell ⟨gv, 5, none⟩ (.slice AS' (nS + 1) cS') = v5 at *
                  try simp only [Act.put, List.setIfInBounds_toArray, List.set_cons_zero, List.set_cons_succ]
                  refine wpAnyH_done (by kernel_rfl) ?_ _
                  have bt := hHeld
                  clear hHeld
                  clear elU k6d hun d7 d8 d9 hlU hu0
                  go_upto_region 15 with fail
                  obtain ⟨y6, _⟩ := ro_cf (ro_but k.out bt.out hkv.out) 6 _ k6c.out
                  rcases Hut.out with ⟨hu0, hu1⟩ | ⟨hu0, hu1⟩
                  · have hsU := hide (show bls ((swp b.ut kn false).take (m + 1)) = bls ((swp b.ut kn false).take m) by rw [hu1]; simp [swp])
                    rw [hu0] at y6
                    clear hu1
                    go_wp2_with fail
                    go_roundw
                    case rel => exact ⟨m + 1, nT + 1, nS + 1, nU, cT', cS', cU, AT', AS', AU, by omega, by go_num, kv, by rw [hst.out, tcs_app, tcs_one]; exact oT, by rw [hsS.out, bls_app]; exact oS, by rw [hsU.out]; exact oU, dj, bt⟩
                    case measure => simp [intOf]; omega
                  · obtain ⟨u1, hu2, hu3⟩ := gB.out b.ut hu1 m hlt
                    have hun : oi < S.ut.n := by rw [hu0]; exact hoi
                    have d7 : decide ((0 : Int) < (S.ut.n : Int)) = true := decide_eq_true (by omega)
                    have d8 : (oi : Int) < (S.ut.n : Int) := by omega
                    have d9 : (0 : Int) < (S.ut.n : Int) := by omega
                    obtain ⟨adU, _, e6, _⟩ := (hR.out _ (But.down hb1.out hgw.out bt.out)).ut.at_ hun
                    have k6d := hide (show cs[6]? = some (.slice (some adU) S.ut.n S.ut.c) by rw [← e6]; exact k6c.out)
                    rw [hoi'] at hu2
                    have elU := hide (show ∀ W, Below w.heap.size w W → W.cell? (adU.add oi) = some (.bool u1) from fun W hB => by
                      obtain ⟨ad', v, e', hv, c_⟩ := (hR.out W hB).ut.at_ hun
                      rw [e6] at e'
                      cases e'
                      rw [List.getElem?_map, hu2] at hv
                      cases hv
                      exact c_)
                    have hsU := hide hu3
                    clear hu1 hu2 hu3 e6
                    replace one1 := hide (show ∀ u ∈ [Value.bool u1], u.oneCell' = true by simp [Value.oneCell'])
                    have hlU : nU ≤ m := by have := oU.out.len; simp at this; omega
                    replace apm := hide (show nU + 1 ≤ maxLen by simp [maxLen]; omega)
                    replace apb := hide (show (nU + 1) * 1 ≤ 140737488355328 by omega)
                    go_upto_region 16 with fail
                    clear y6
                    replace kv := hide kv.out.drew
                    replace oT := hide oT.out.drew
                    replace oS := hide oS.out.drew
                    replace oU := hide oU.out.drew
                    refine wp_region_held_drew (S := fun w' => Hid (But gv w2 w')) (by kernel_rfl) (hide bt.out.drew) (fun hHeld => ?_)
                    generalize v5.drew = u0 at *
                    refine wpAnyH_takeD (i := 0) (d := (some 94)) (v := ?_) rfl rfl (by kernel_rfl) (by kernel_rfl) (by kernel_rfl) (fun _ _ _ h => h) (Or.inl ⟨by rfl, ?_⟩) (by assumption) ?_
                    rotate_left
                    · ((intro w hSw; go_simp) <;> with_reducible rfl)
                    try simp only [Act.put, List.setIfInBounds_toArray, List.set_cons_zero, List.set_cons_succ]
                    refine wpAnyH_takeD (i := 2) (d := (some 96)) (v := ?_) rfl rfl (by kernel_rfl) (by kernel_rfl) (by kernel_rfl) (fun _ _ _ h => h) (Or.inl ⟨by rfl, ?_⟩) (by assumption) ?_
                    rotate_left
                    · ((intro w hSw; go_simp) <;> with_reducible rfl)
                    try simp only [Act.put, List.setIfInBounds_toArray, List.set_cons_zero, List.set_cons_succ]
                    refine wpAnyH_takeD (i := 3) (d := (some 97)) (v := ?_) rfl rfl (by kernel_rfl) (by kernel_rfl) (by kernel_rfl) (fun _ _ _ h => h) (Or.inl ⟨by rfl, ?_⟩) (by assumption) ?_
                    rotate_left
                    · ((intro w hSw; obtain ⟨q_, _⟩ := ro_cf (ro_but k.out hSw.out hkv.out) 6 _ k6d.out; go_simp) <;> with_reducible rfl)
                    try simp only [Act.put, List.setIfInBounds_toArray, List.set_cons_zero, List.set_cons_succ]
                    refine wpAnyH_takeD (i := 4) (d := (some 98)) (v := ?_) rfl rfl (by kernel_rfl) (by kernel_rfl) (by kernel_rfl) (fun _ _ _ h => h) (Or.inl ⟨by rfl, ?_⟩) (by assumption) ?_
                    rotate_left
                    · ((intro w hSw; go_simp) <;> with_reducible rfl)
                    try simp only [Act.put, List.setIfInBounds_toArray, List.set_cons_zero, List.set_cons_succ]
                    refine wpAnyH_takeD (i := 5) (d := (some 99)) (v := ?_) rfl rfl (by kernel_rfl) (by kernel_rfl) (by kernel_rfl) (fun _ _ _ h => h) (Or.inl ⟨by rfl, ?_⟩) (by assumption) ?_
                    rotate_left
                    · ((intro w hSw; go_simp) <;> with_reducible rfl)
                    try simp only [Act.put, List.setIfInBounds_toArray, List.set_cons_zero, List.set_cons_succ]
                    refine wpAnyH_ready (rs := [1, 6]) (by kernel_rfl) (by simp) ?_
                    refine AllReadyH.cons rfl (fun K hK => ?_) (AllReadyH.cons rfl (fun K hK => ?_) (AllReadyH.nil))
                    · obtain ⟨y1, z1⟩ := ro_cf kv.out 6 _ rfl
                      go_simp
                      refine hK.out _ _ (hHeld) (fun hHeld => ?_)
                      clear hK K
                      clear y1 z1
                      try simp only [Act.put, List.setIfInBounds_toArray, List.set_cons_zero, List.set_cons_succ]
                      refine wpAnyH_ready (rs := [6]) (by kernel_rfl) (by simp) ?_
                      refine AllReadyH.cons rfl (fun K hK => ?_) (AllReadyH.nil)
                      go_simp
                      refine (OT2.out _).mono ?_
                      rintro e v9 ⟨rfl, rfl⟩
                      refine hK.out _ _ (hHeld) (fun hHeld => ?_)
                      clear hK K
                      try simp only [Act.put, List.setIfInBounds_toArray, List.set_cons_zero, List.set_cons_succ]
                      refine wpAnyH_takeD (i := 7) (d := (some 101)) (v := ?_) rfl rfl (by kernel_rfl) (by kernel_rfl) (by kernel_rfl) (fun _ _ _ h => h) (Or.inl ⟨by rfl, ?_⟩) (by assumption) ?_
                      rotate_left
                      · ((intro w hSw; go_simp) <;> with_reducible rfl)
                      try simp only [Act.put, List.setIfInBounds_toArray, List.set_cons_zero, List.set_cons_succ]
                      refine wpAnyH_takeD (i := 8) (d := (some 102)) (v := ?_) rfl rfl (by kernel_rfl) (by kernel_rfl) (by kernel_rfl) (fun _ _ _ h => h) (Or.inl ⟨by rfl, ?_⟩) (by assumption) ?_
                      rotate_left
                      · ((intro w hSw; have q_ := elU.out _ (But.down hb1.out hgw.out hSw.out); go_simp) <;> with_reducible rfl)
                      try simp only [Act.put, List.setIfInBounds_toArray, List.set_cons_zero, List.set_cons_succ]
                      refine wpAnyH_ready (rs := [9]) (by kernel_rfl) (by simp) ?_
                      refine AllReadyH.cons rfl (fun K hK => ?_) (AllReadyH.nil)
                      go_simp
                      have ol := hide ((Ow.lit u0 4 [.bool u1] (by simp [maxLen])).rd)
                      replace kv := hide (kv.out.alloc (.cells #[.bool u1] 4))
                      replace oT := hide (oT.out.alloc (.cells #[.bool u1] 4))
                      replace oS := hide (oS.out.alloc (.cells #[.bool u1] 4))
                      replace oU := hide (oU.out.alloc (.cells #[.bool u1] 4))
                      refine hK.out _ _ (hide (hHeld.out.alloc (.cells #[.bool u1] 4))) (fun hHeld => ?_)
                      clear hK K
                      generalize u0.heap.size = gs at *
                      generalize u0.alloc (.cells #[.bool u1] 4) = v3 at *
                      try simp only [Act.put, List.setIfInBounds_toArray, List.set_cons_zero, List.set_cons_succ]
                      refine wpAnyH_ready (rs := [10]) (by kernel_rfl) (by simp) ?_
                      refine AllReadyH.cons rfl (fun K hK => ?_) (AllReadyH.nil)
                      refine step_apAG elBoR oU.out (Below.refl w2.heap.size v3) (Nat.le_refl _) ol.out (.tmp 95) (.tmp 103) rfl rfl rfl rfl (fun h => by cases h) one1.out apm.out apb.out (fun AU' cU' v4 ho hb' hg => ?_)
                      have dx := oT.out.ty.dj oU.out.ty (by decide)
                      replace oT := hide (own_grownK oT.out hg.g dx)
                      clear dx
                      have dj' := hide (hg.dj oS.out dj.out)
                      replace oS := hide (hg.ow oS.out dj.out)
                      replace dj := dj'
                      replace kv := hide (ro_lowN kv.out hgv.out hb')
                      clear hg
                      replace oU := hide ho
                      refine hK.out _ _ (hide (hHeld.out.nextB hb')) (fun hHeld => ?_)
                      clear hK K
                      clear ho hb' ol
                      try simp only [Act.put, List.setIfInBounds_toArray, List.set_cons_zero, List.set_cons_succ]
                      refine wpAnyH_takeD (i := 11) (d := (some 105)) (v := ?_) rfl rfl (by kernel_rfl) (by kernel_rfl) (by kernel_rfl) (fun _ _ _ h => h) (Or.inl ⟨by rfl, ?_⟩) (by assumption) ?_
                      rotate_left
                      · ((intro w hSw; go_simp) <;> with_reducible rfl)
                      try simp only [Act.put, List.setIfInBounds_toArray, List.set_cons_zero, List.set_cons_succ]
                      refine wpAnyH_ready (rs := [12]) (by kernel_rfl) (by simp) ?_
                      refine AllReadyH.cons rfl (fun K hK => ?_) (AllReadyH.nil)
                      obtain ⟨y1, z1⟩ := ro_cf kv.out 6 _ rfl
                      go_simp
                      refine hK.out _ _ (hide (hHeld.out.set _)) (fun hHeld => ?_)
                      clear hK K
                      clear y1 z1
                      replace oT := hide (oT.out.butT kv.out (by decide) ((But.refl gv v4).set (o := 6) (.slice AU' (nU + 1) cU')))
                      replace oS := hide (oS.out.butT kv.out (by decide) ((But.refl gv v4).set (o := 6) (.slice AU' (nU + 1) cU')))
                      replace oU := hide (oU.out.butT kv.out (by decide) ((But.refl gv v4).set (o := 6) (.slice AU' (nU + 1) cU')))
                      replace kv := hide (show Ro (v4.setCell ⟨gv, 6, none⟩ (.slice AU' (nU + 1) cU')) gv #[.slice A0 n0 c0, .slice A1 n1 c1, .slice AT' (nT + 1) cT', .slice none 0 0, .slice none 0 0, .slice AS' (nS + 1) cS', .slice AU' (nU + 1) cU'] 28 from by have := ro_set kv.out 6 (.slice AU' (nU + 1) cU'); simpa using this)
                      generalize v4.setCell ⟨gv, 6, none⟩ (.slice AU' (nU + 1) cU') = v5 at *
                      try simp only [Act.put, List.setIfInBounds_toArray, List.set_cons_zero, List.set_cons_succ]
                      refine wpAnyH_done (by kernel_rfl) ?_ _
                      have bt := hHeld
                      clear hHeld
                      go_wp2_with fail
                      go_roundw
                      case rel => exact ⟨m + 1, nT + 1, nS + 1, nU + 1, cT', cS', cU', AT', AS', AU', by omega, by go_num, kv, by rw [hst.out, tcs_app, tcs_one]; exact oT, by rw [hsS.out, bls_app]; exact oS, by rw [hsU.out, bls_app]; exact oU, dj, bt⟩
                      case measure => simp [intOf]; omega
                    · go_simp
                      refine (OT2.out _).mono ?_
                      rintro e v9 ⟨rfl, rfl⟩
                      refine hK.out _ _ (hHeld) (fun hHeld => ?_)
                      clear hK K
                      try simp only [Act.put, List.setIfInBounds_toArray, List.set_cons_zero, List.set_cons_succ]
                      refine wpAnyH_takeD (i := 7) (d := (some 101)) (v := ?_) rfl rfl (by kernel_rfl) (by kernel_rfl) (by kernel_rfl) (fun _ _ _ h => h) (Or.inl ⟨by rfl, ?_⟩) (by assumption) ?_
                      rotate_left
                      · ((intro w hSw; go_simp) <;> with_reducible rfl)
                      try simp only [Act.put, List.setIfInBounds_toArray, List.set_cons_zero, List.set_cons_succ]
                      refine wpAnyH_takeD (i := 8) (d := (some 102)) (v := ?_) rfl rfl (by kernel_rfl) (by kernel_rfl) (by kernel_rfl) (fun _ _ _ h => h) (Or.inl ⟨by rfl, ?_⟩) (by assumption) ?_
                      rotate_left
                      · ((intro w hSw; have q_ := elU.out _ (But.down hb1.out hgw.out hSw.out); go_simp) <;> with_reducible rfl)
                      try simp only [Act.put, List.setIfInBounds_toArray, List.set_cons_zero, List.set_cons_succ]
                      refine wpAnyH_ready (rs := [1, 9]) (by kernel_rfl) (by simp) ?_
                      refine AllReadyH.cons rfl (fun K hK => ?_) (AllReadyH.cons rfl (fun K hK => ?_) (AllReadyH.nil))
                      · obtain ⟨y1, z1⟩ := ro_cf kv.out 6 _ rfl
                        go_simp
                        refine hK.out _ _ (hHeld) (fun hHeld => ?_)
                        clear hK K
                        clear y1 z1
                        try simp only [Act.put, List.setIfInBounds_toArray, List.set_cons_zero, List.set_cons_succ]
                        refine wpAnyH_ready (rs := [9]) (by kernel_rfl) (by simp) ?_
                        refine AllReadyH.cons rfl (fun K hK => ?_) (AllReadyH.nil)
                        go_simp
                        have ol := hide ((Ow.lit u0 4 [.bool u1] (by simp [maxLen])).rd)
                        replace kv := hide (kv.out.alloc (.cells #[.bool u1] 4))
                        replace oT := hide (oT.out.alloc (.cells #[.bool u1] 4))
                        replace oS := hide (oS.out.alloc (.cells #[.bool u1] 4))
                        replace oU := hide (oU.out.alloc (.cells #[.bool u1] 4))
                        refine hK.out _ _ (hide (hHeld.out.alloc (.cells #[.bool u1] 4))) (fun hHeld => ?_)
                        clear hK K
                        generalize u0.heap.size = gs at *
                        generalize u0.alloc (.cells #[.bool u1] 4) = v3 at *
                        try simp only [Act.put, List.setIfInBounds_toArray, List.set_cons_zero, List.set_cons_succ]
                        refine wpAnyH_ready (rs := [10]) (by kernel_rfl) (by simp) ?_
                        refine AllReadyH.cons rfl (fun K hK => ?_) (AllReadyH.nil)
                        refine step_apAG elBoR oU.out (Below.refl w2.heap.size v3) (Nat.le_refl _) ol.out (.tmp 95) (.tmp 103) rfl rfl rfl rfl (fun h => by cases h) one1.out apm.out apb.out (fun AU' cU' v4 ho hb' hg => ?_)
                        have dx := oT.out.ty.dj oU.out.ty (by decide)
                        replace oT := hide (own_grownK oT.out hg.g dx)
                        clear dx
                        have dj' := hide (hg.dj oS.out dj.out)
                        replace oS := hide (hg.ow oS.out dj.out)
                        replace dj := dj'
                        replace kv := hide (ro_lowN kv.out hgv.out hb')
                        clear hg
                        replace oU := hide ho
                        refine hK.out _ _ (hide (hHeld.out.nextB hb')) (fun hHeld => ?_)
                        clear hK K
                        clear ho hb' ol
                        try simp only [Act.put, List.setIfInBounds_toArray, List.set_cons_zero, List.set_cons_succ]
                        refine wpAnyH_takeD (i := 11) (d := (some 105)) (v := ?_) rfl rfl (by kernel_rfl) (by kernel_rfl) (by kernel_rfl) (fun _ _ _ h => h) (Or.inl ⟨by rfl, ?_⟩) (by assumption) ?_
                        rotate_left
                        · ((intro w hSw; go_simp) <;> with_reducible rfl)
                        try simp only [Act.put, List.setIfInBounds_toArray, List.set_cons_zero, List.set_cons_succ]
                        refine wpAnyH_ready (rs := [12]) (by kernel_rfl) (by simp) ?_
                        refine AllReadyH.cons rfl (fun K hK => ?_) (AllReadyH.nil)
                        obtain ⟨y1, z1⟩ := ro_cf kv.out 6 _ rfl
                        go_simp
                        refine hK.out _ _ (hide (hHeld.out.set _)) (fun hHeld => ?_)
                        clear hK K
                        clear y1 z1
                        replace oT := hide (oT.out.butT kv.out (by decide) ((But.refl gv v4).set (o := 6) (.slice AU' (nU + 1) cU')))
                        replace oS := hide (oS.out.butT kv.out (by decide) ((But.refl gv v4).set (o := 6) (.slice AU' (nU + 1) cU')))
                        replace oU := hide (oU.out.butT kv.out (by decide) ((But.refl gv v4).set (o := 6) (.slice AU' (nU + 1) cU')))
                        replace kv := hide (show Ro (v4.setCell ⟨gv, 6, none⟩ (.slice AU' (nU + 1) cU')) gv #[.slice A0 n0 c0, .slice A1 n1 c1, .slice AT' (nT + 1) cT', .slice none 0 0, .slice none 0 0, .slice AS' (nS + 1) cS', .slice AU' (nU + 1) cU'] 28 from by have := ro_set kv.out 6 (.slice AU' (nU + 1) cU'); simpa using this)
                        generalize v4.setCell ⟨gv, 6, none⟩ (.slice AU' (nU + 1) cU') = v5 at *
                        try simp only [Act.put, List.setIfInBounds_toArray, List.set_cons_zero, List.set_cons_succ]
                        refine wpAnyH_done (by kernel_rfl) ?_ _
                        have bt := hHeld
                        clear hHeld
                        go_wp2_with fail
                        go_roundw
                        case rel => exact ⟨m + 1, nT + 1, nS + 1, nU + 1, cT', cS', cU', AT', AS', AU', by omega, by go_num, kv, by rw [hst.out, tcs_app, tcs_one]; exact oT, by rw [hsS.out, bls_app]; exact oS, by rw [hsU.out, bls_app]; exact oU, dj, bt⟩
                        case measure => simp [intOf]; omega
                      · go_simp
                        have ol := hide ((Ow.lit u0 4 [.bool u1] (by simp [maxLen])).rd)
                        replace kv := hide (kv.out.alloc (.cells #[.bool u1] 4))
                        replace oT := hide (oT.out.alloc (.cells #[.bool u1] 4))
                        replace oS := hide (oS.out.alloc (.cells #[.bool u1] 4))
                        replace oU := hide (oU.out.alloc (.cells #[.bool u1] 4))
                        refine hK.out _ _ (hide (hHeld.out.alloc (.cells #[.bool u1] 4))) (fun hHeld => ?_)
                        clear hK K
                        generalize u0.heap.size = gs at *
                        generalize u0.alloc (.cells #[.bool u1] 4) = v2 at *
                        try simp only [Act.put, List.setIfInBounds_toArray, List.set_cons_zero, List.set_cons_succ]
                        refine wpAnyH_ready (rs := [1]) (by kernel_rfl) (by simp) ?_
                        refine AllReadyH.cons rfl (fun K hK => ?_) (AllReadyH.nil)
                        obtain ⟨y1, z1⟩ := ro_cf kv.out 6 _ rfl
                        go_simp
                        refine hK.out _ _ (hHeld) (fun hHeld => ?_)
                        clear hK K
                        clear y1 z1
                        try simp only [Act.put, List.setIfInBounds_toArray, List.set_cons_zero, List.set_cons_succ]
                        refine wpAnyH_ready (rs := [10]) (by kernel_rfl) (by simp) ?_
                        refine AllReadyH.cons rfl (fun K hK => ?_) (AllReadyH.nil)
                        refine step_apAG elBoR oU.out (Below.refl w2.heap.size v2) (Nat.le_refl _) ol.out (.tmp 95) (.tmp 103) rfl rfl rfl rfl (fun h => by cases h) one1.out apm.out apb.out (fun AU' cU' v4 ho hb' hg => ?_)
                        have dx := oT.out.ty.dj oU.out.ty (by decide)
                        replace oT := hide (own_grownK oT.out hg.g dx)
                        clear dx
                        have dj' := hide (hg.dj oS.out dj.out)
                        replace oS := hide (hg.ow oS.out dj.out)
                        replace dj := dj'
                        replace kv := hide (ro_lowN kv.out hgv.out hb')
                        clear hg
                        replace oU := hide ho
                        refine hK.out _ _ (hide (hHeld.out.nextB hb')) (fun hHeld => ?_)
                        clear hK K
                        clear ho hb' ol
                        try simp only [Act.put, List.setIfInBounds_toArray, List.set_cons_zero, List.set_cons_succ]
                        refine wpAnyH_takeD (i := 11) (d := (some 105)) (v := ?_) rfl rfl (by kernel_rfl) (by kernel_rfl) (by kernel_rfl) (fun _ _ _ h => h) (Or.inl ⟨by rfl, ?_⟩) (by assumption) ?_
                        rotate_left
                        · ((intro w hSw; go_simp) <;> with_reducible rfl)
                        try simp only [Act.put, List.setIfInBounds_toArray, List.set_cons_zero, List.set_cons_succ]
                        refine wpAnyH_ready (rs := [12]) (by kernel_rfl) (by simp) ?_
                        refine AllReadyH.cons rfl (fun K hK => ?_) (AllReadyH.nil)
                        obtain ⟨y1, z1⟩ := ro_cf kv.out 6 _ rfl
                        go_simp
                        refine hK.out _ _ (hide (hHeld.out.set _)) (fun hHeld => ?_)
                        clear hK K
                        clear y1 z1
                        replace oT := hide (oT.out.butT kv.out (by decide) ((But.refl gv v4).set (o := 6) (.slice AU' (nU + 1) cU')))
                        replace oS := hide (oS.out.butT kv.out (by decide) ((But.refl gv v4).set (o := 6) (.slice AU' (nU + 1) cU')))
                        replace oU := hide (oU.out.butT kv.out (by decide) ((But.refl gv v4).set (o := 6) (.slice AU' (nU + 1) cU')))
                        replace kv := hide (show Ro (v4.setCell ⟨gv, 6, none⟩ (.slice AU' (nU + 1) cU')) gv #[.slice A0 n0 c0, .slice A1 n1 c1, .slice AT' (nT + 1) cT', .slice none 0 0, .slice none 0 0, .slice AS' (nS + 1) cS', .slice AU' (nU + 1) cU'] 28 from by have := ro_set kv.out 6 (.slice AU' (nU + 1) cU'); simpa using this)
                        generalize v4.setCell ⟨gv, 6, none⟩ (.slice AU' (nU + 1) cU') = v5 at *
                        try simp only [Act.put, List.setIfInBounds_toArray, List.set_cons_zero, List.set_cons_succ]
                        refine wpAnyH_done (by kernel_rfl) ?_ _
                        have bt := hHeld
                        clear hHeld
                        go_wp2_with fail
                        go_roundw
                        case rel => exact ⟨m + 1, nT + 1, nS + 1, nU + 1, cT', cS', cU', AT', AS', AU', by omega, by go_num, kv, by rw [hst.out, tcs_app, tcs_one]; exact oT, by rw [hsS.out, bls_app]; exact oS, by rw [hsU.out, bls_app]; exact oU, dj, bt⟩
                        case measure => simp [intOf]; omega
        · obtain rfl : m = S.ty.n := by omega
          rw [tk.out _ _ _ l2'.out] at oT
          rw [tk.out _ _ _ (Hsd.out.elim (fun q => .inr q.2) (fun q => .inl q.2))] at oS
          rw [tk.out _ _ _ (Hut.out.elim (fun q => .inr q.2) (fun q => .inl q.2))] at oU
          clear hm hlt gT gB Hsd Hut tk OT dj
          replace k := hide (ro_but k.out bt.out hkv.out)
          replace k2 := hide (ro_but k2.out bt.out hk2v.out)
          replace o0 := hide (o0.out.butT kv1.out (by decide) bt.out)
          replace o1 := hide (o1.out.butT kv1.out (by decide) bt.out)
          replace oT := hide (oT.out.mono hb1.out.size)
          replace oS := hide (oS.out.mono hb1.out.size)
          replace oU := hide (oU.out.mono hb1.out.size)
          replace hb1 := hide (But.down hb1.out hgw.out bt.out)
          clear kv1 bt
          generalize wr = w3 at *
          replace hgv := hide kv.out.lt
          obtain ⟨y0, _⟩ := ro_cf k.out 3 _ k3c.out
          obtain ⟨y3, z3⟩ := ro_cf kv.out 3 _ rfl
          have x1 := hide (show 0 + S.ch.n ≤ maxLen by simp [maxLen]; omega)
          have x2 := hide (show (0 + S.ch.n) * 1 ≤ 140737488355328 by omega)
          have rch := hide (hchn.out _ hb1.out)
          go_upto_region 18 with (at_builtin; refine apA elU8 (Ow.nil (w := w3) (b := w3.heap.size) (Nat.le_refl _) 5) (Below.refl w3.heap.size w3) (Nat.le_refl _) rch.out (.tmp 107) (.tmp 109) rfl rfl rfl rfl hch.out och1.out x1.out x2.out ?_; intro AC cC wx ho hb' hg; have kvb := hide (ro_lowN kv.out hgv.out hb'); obtain ⟨y5, z5⟩ := ro_cf kvb.out 3 _ rfl; have btb := hide ((But.refl gv w3).nextB hb'); rw [Nat.zero_add, List.nil_append] at ho; rw [Nat.zero_add])
          have bo := btb.out.set (o := 3) (.slice AC S.ch.n cC)
          have oC := hide (Ow.butT ho kvb.out (by decide) ((But.refl gv wx).set (o := 3) (.slice AC S.ch.n cC)))
          replace k := hide (ro_but k.out bo hkv.out)
          replace k2 := hide (ro_but k2.out bo hk2v.out)
          replace o0 := hide (o0.out.butT kv.out (by decide) bo)
          replace o1 := hide (o1.out.butT kv.out (by decide) bo)
          replace oT := hide (oT.out.butT kv.out (by decide) bo)
          replace oS := hide (oS.out.butT kv.out (by decide) bo)
          replace oU := hide (oU.out.butT kv.out (by decide) bo)
          replace oC := hide (oC.out.mono hb1.out.size)
          replace hb1 := hide (But.down hb1.out hgw.out bo)
          replace kv := hide (show Ro (wx.setCell ⟨gv, 3, none⟩ (.slice AC S.ch.n cC)) gv #[.slice A0 n0 c0, .slice A1 n1 c1, .slice AT nT cT, .slice AC S.ch.n cC, .slice none 0 0, .slice AS nS cS, .slice AU nU cU] 28 from by have := ro_set kvb.out 3 (.slice AC S.ch.n cC); simpa using this)
          clear bo ho hb' hg kvb btb y5 z5 y3 z3 y0 rch x1 x2
          generalize wx.setCell ⟨gv, 3, none⟩ (.slice AC S.ch.n cC) = w4 at *
          replace hgv := hide kv.out.lt
          go_wp2
          go_loopw [7] (fun i wr => ∃ (m n4 c4 : Nat) (A4 : Option Addr), m ≤ S.lp.n ∧ i = .int .i64 (m : Nat) ∧ Hid (Ro wr gv #[.slice A0 n0 c0, .slice A1 n1 c1, .slice AT nT cT, .slice AC S.ch.n cC, .slice A4 n4 c4, .slice AS nS cS, .slice AU nU cU] 28) ∧ Hid (Ok 2 wr w4.heap.size 42 A4 n4 c4 (lcs (lN b m))) ∧ Hid (But gv w4 wr)) (fun i _ => S.lp.n - (intOf i).toNat)
          case atStart => exact ⟨0, 0, 0, none, by omega, rfl, kv, hide (Ok.nil (Nat.le_refl _) _ _), hide (But.refl gv w4)⟩
          case round =>
            have kv2 := hide kv.out
            clear kv
            obtain ⟨m, n4, c4, A4, hm, rfl, kv, o4, bt⟩ := hrel
            obtain ⟨y0, _⟩ := ro_cf (ro_but k.out bt.out hkv.out) 4 _ k4c.out
            by_cases hlt : m < S.lp.n
            · obtain ⟨t, ht0⟩ := gp.out m hlt
              have ht := hide (lN_step ht0)
              obtain ⟨l0, l1⟩ := t
              obtain ⟨ad, t2, e0, ht2, f0, f1⟩ := (hR.out _ (But.down hb1.out hgw.out bt.out)).lp.lp hlt
              obtain rfl : t2 = (l0, l1) := by rw [ht0] at ht2; cases ht2; rfl
              have k4d := hide (show cs[4]? = some (.slice (some ad) S.lp.n S.lp.c) by rw [← e0]; exact k4c.out)
              have el := hide (show ∀ W, Below w.heap.size w W → W.cell? (ad.add (m * 2)) = some (.int .i64 l0) ∧ W.cell? ⟨(ad.add (m * 2)).block, (ad.add (m * 2)).off + 1, none⟩ = some (.int .i32 l1) from fun W hB => by
                obtain ⟨ad', t', e', ht', c0_, c1_⟩ := (hR.out W hB).lp.lp hlt
                rw [e0] at e'
                cases e'
                rw [ht0] at ht'
                cases ht'
                exact ⟨c0_, c1_⟩)
              clear ht2 ht0 f1
              have d1 : (m : Int) < (S.lp.n : Int) := by omega
              have i1 : IntKind.i64.wrap ((m : Int) + 1) = ((m + 1 : Nat) : Int) := by rw [IntKind.wrap_i64]; omega
              rw [e0] at y0
              dsimp only at ht f0
              by_cases hle : l0 ≤ 2147483647
              · rw [if_pos hle] at ht
                have g1 : decide (l0 ≤ 2147483647) = true := decide_eq_true hle
                have hl4 : n4 ≤ m := by have := o4.out.len; rw [lcs_len] at this; have := lN_len b m; omega
                have apm := hide (show n4 + 1 ≤ maxLen by simp [maxLen]; omega)
                have apb := hide (show (n4 + 1) * 16 ≤ 140737488355328 by omega)
                have one1 := hide (show ∀ u ∈ [Value.int .i64 l0, .int .i32 l1], u.oneCell' = true by simp [Value.oneCell'])
                replace hle := hide hle
                go_upto_region 22 with fail
                clear y0 f0 g1 e0
                replace kv := hide kv.out.drew
                replace o4 := hide o4.out.drew
                refine wp_region_held_drew (S := fun w' => Hid (But gv w4 w')) (by kernel_rfl) (hide bt.out.drew) (fun hHeld => ?_)
                generalize wr.drew = u0 at *
                refine wpAnyH_takeD (i := 0) (d := (some 126)) (v := ?_) rfl rfl (by kernel_rfl) (by kernel_rfl) (by kernel_rfl) (fun _ _ _ h => h) (Or.inl ⟨by rfl, ?_⟩) (by assumption) ?_
                rotate_left
                · ((intro w hSw; go_simp) <;> with_reducible rfl)
                try simp only [Act.put, List.setIfInBounds_toArray, List.set_cons_zero, List.set_cons_succ]
                refine wpAnyH_takeD (i := 2) (d := (some 128)) (v := ?_) rfl rfl (by kernel_rfl) (by kernel_rfl) (by kernel_rfl) (fun _ _ _ h => h) (Or.inl ⟨by rfl, ?_⟩) (by assumption) ?_
                rotate_left
                · ((intro w hSw; go_simp) <;> with_reducible rfl)
                try simp only [Act.put, List.setIfInBounds_toArray, List.set_cons_zero, List.set_cons_succ]
                refine wpAnyH_takeD (i := 3) (d := (some 129)) (v := ?_) rfl rfl (by kernel_rfl) (by kernel_rfl) (by kernel_rfl) (fun _ _ _ h => h) (Or.inl ⟨by rfl, ?_⟩) (by assumption) ?_
                rotate_left
                · ((intro w hSw; obtain ⟨q_, _⟩ := ro_cf (ro_but k.out hSw.out hkv.out) 4 _ k4d.out; go_simp) <;> with_reducible rfl)
                try simp only [Act.put, List.setIfInBounds_toArray, List.set_cons_zero, List.set_cons_succ]
                refine wpAnyH_takeD (i := 4) (d := (some 130)) (v := ?_) rfl rfl (by kernel_rfl) (by kernel_rfl) (by kernel_rfl) (fun _ _ _ h => h) (Or.inl ⟨by rfl, ?_⟩) (by assumption) ?_
                rotate_left
                · ((intro w hSw; go_simp) <;> with_reducible rfl)
                try simp only [Act.put, List.setIfInBounds_toArray, List.set_cons_zero, List.set_cons_succ]
                refine wpAnyH_takeD (i := 5) (d := (some 131)) (v := ?_) rfl rfl (by kernel_rfl) (by kernel_rfl) (by kernel_rfl) (fun _ _ _ h => h) (Or.inl ⟨by rfl, ?_⟩) (by assumption) ?_
                rotate_left
                · ((intro w hSw; go_simp) <;> with_reducible rfl)
                try simp only [Act.put, List.setIfInBounds_toArray, List.set_cons_zero, List.set_cons_succ]
                refine wpAnyH_takeD (i := 6) (d := (some 132)) (v := ?_) rfl rfl (by kernel_rfl) (by kernel_rfl) (by kernel_rfl) (fun _ _ _ h => h) (Or.inl ⟨by rfl, ?_⟩) (by assumption) ?_
                rotate_left
                · ((intro w hSw; obtain ⟨q_, q1_⟩ := el.out _ (But.down hb1.out hgw.out hSw.out); go_simp) <;> with_reducible rfl)
                try simp only [Act.put, List.setIfInBounds_toArray, List.set_cons_zero, List.set_cons_succ]
                refine wpAnyH_ready (rs := [1, 7]) (by kernel_rfl) (by simp) ?_
                refine AllReadyH.cons rfl (fun K hK => ?_) (AllReadyH.cons rfl (fun K hK => ?_) (AllReadyH.nil))
                · obtain ⟨y1, z1⟩ := ro_cf kv.out 4 _ rfl
                  go_simp
                  refine hK.out _ _ (hHeld) (fun hHeld => ?_)
                  clear hK K
                  clear y1 z1
                  try simp only [Act.put, List.setIfInBounds_toArray, List.set_cons_zero, List.set_cons_succ]
                  refine wpAnyH_ready (rs := [7]) (by kernel_rfl) (by simp) ?_
                  refine AllReadyH.cons rfl (fun K hK => ?_) (AllReadyH.nil)
                  go_simp
                  have ol := hide ((Ok.lit 2 u0 42 [.int .i64 l0, .int .i32 l1] 1 rfl (by simp [maxLen])).rd)
                  replace kv := hide (kv.out.alloc (.cells #[.int .i64 l0, .int .i32 l1] 42))
                  replace o4 := hide (o4.out.alloc (.cells #[.int .i64 l0, .int .i32 l1] 42))
                  refine hK.out _ _ (hide (hHeld.out.alloc (.cells #[.int .i64 l0, .int .i32 l1] 42))) (fun hHeld => ?_)
                  clear hK K
                  generalize u0.heap.size = gs at *
                  generalize u0.alloc (.cells #[.int .i64 l0, .int .i32 l1] 42) = v2 at *
                  try simp only [Act.put, List.setIfInBounds_toArray, List.set_cons_zero, List.set_cons_succ]
                  refine wpAnyH_ready (rs := [8]) (by kernel_rfl) (by simp) ?_
                  refine AllReadyH.cons rfl (fun K hK => ?_) (AllReadyH.nil)
                  refine step_apK elLP (by decide) o4.out (Below.refl w4.heap.size v2) (Nat.le_refl _) ol.out (.tmp 127) (.tmp 133) rfl rfl rfl rfl (fun h => by cases h) one1.out apm.out apb.out (fun A4' c4' v3 ho hb' hg => ?_)
                  replace kv := hide (ro_lowN kv.out hgv.out hb')
                  clear hg
                  replace o4 := hide ho
                  refine hK.out _ _ (hide (hHeld.out.nextB hb')) (fun hHeld => ?_)
                  clear hK K
                  clear ho hb' ol
                  try simp only [Act.put, List.setIfInBounds_toArray, List.set_cons_zero, List.set_cons_succ]
                  refine wpAnyH_takeD (i := 9) (d := (some 135)) (v := ?_) rfl rfl (by kernel_rfl) (by kernel_rfl) (by kernel_rfl) (fun _ _ _ h => h) (Or.inl ⟨by rfl, ?_⟩) (by assumption) ?_
                  rotate_left
                  · ((intro w hSw; go_simp) <;> with_reducible rfl)
                  try simp only [Act.put, List.setIfInBounds_toArray, List.set_cons_zero, List.set_cons_succ]
                  refine wpAnyH_ready (rs := [10]) (by kernel_rfl) (by simp) ?_
                  refine AllReadyH.cons rfl (fun K hK => ?_) (AllReadyH.nil)
                  obtain ⟨y1, z1⟩ := ro_cf kv.out 4 _ rfl
                  go_simp
                  refine hK.out _ _ (hide (hHeld.out.set _)) (fun hHeld => ?_)
                  clear hK K
                  clear y1 z1
                  replace o4 := hide (o4.out.butT kv.out (by decide) ((But.refl gv v3).set (o := 4) (.slice A4' (n4 + 1) c4')))
                  replace kv := hide (show Ro (v3.setCell ⟨gv, 4, none⟩ (.slice A4' (n4 + 1) c4')) gv #[.slice A0 n0 c0, .slice A1 n1 c1, .slice AT nT cT, .slice AC S.ch.n cC, .slice A4' (n4 + 1) c4', .slice AS nS cS, .slice AU nU cU] 28 from by have := ro_set kv.out 4 (.slice A4' (n4 + 1) c4'); simpa using this)
                  generalize v3.setCell ⟨gv, 4, none⟩ (.slice A4' (n4 + 1) c4') = v4 at *
                  try simp only [Act.put, List.setIfInBounds_toArray, List.set_cons_zero, List.set_cons_succ]
                  refine wpAnyH_done (by kernel_rfl) ?_ _
                  have bt := hHeld
                  clear hHeld
                  go_wp2_with fail
                  go_roundw
                  case rel => exact ⟨m + 1, n4 + 1, c4', A4', by omega, by go_num, kv, by rw [ht.out, lcs_app, lcs_one]; exact o4, bt⟩
                  case measure => simp [intOf]; omega
                · go_simp
                  have ol := hide ((Ok.lit 2 u0 42 [.int .i64 l0, .int .i32 l1] 1 rfl (by simp [maxLen])).rd)
                  replace kv := hide (kv.out.alloc (.cells #[.int .i64 l0, .int .i32 l1] 42))
                  replace o4 := hide (o4.out.alloc (.cells #[.int .i64 l0, .int .i32 l1] 42))
                  refine hK.out _ _ (hide (hHeld.out.alloc (.cells #[.int .i64 l0, .int .i32 l1] 42))) (fun hHeld => ?_)
                  clear hK K
                  generalize u0.heap.size = gs at *
                  generalize u0.alloc (.cells #[.int .i64 l0, .int .i32 l1] 42) = v1 at *
                  try simp only [Act.put, List.setIfInBounds_toArray, List.set_cons_zero, List.set_cons_succ]
                  refine wpAnyH_ready (rs := [1]) (by kernel_rfl) (by simp) ?_
                  refine AllReadyH.cons rfl (fun K hK => ?_) (AllReadyH.nil)
                  obtain ⟨y1, z1⟩ := ro_cf kv.out 4 _ rfl
                  go_simp
                  refine hK.out _ _ (hHeld) (fun hHeld => ?_)
                  clear hK K
                  clear y1 z1
                  try simp only [Act.put, List.setIfInBounds_toArray, List.set_cons_zero, List.set_cons_succ]
                  refine wpAnyH_ready (rs := [8]) (by kernel_rfl) (by simp) ?_
                  refine AllReadyH.cons rfl (fun K hK => ?_) (AllReadyH.nil)
                  refine step_apK elLP (by decide) o4.out (Below.refl w4.heap.size v1) (Nat.le_refl _) ol.out (.tmp 127) (.tmp 133) rfl rfl rfl rfl (fun h => by cases h) one1.out apm.out apb.out (fun A4' c4' v3 ho hb' hg => ?_)
                  replace kv := hide (ro_lowN kv.out hgv.out hb')
                  clear hg
                  replace o4 := hide ho
                  refine hK.out _ _ (hide (hHeld.out.nextB hb')) (fun hHeld => ?_)
                  clear hK K
                  clear ho hb' ol
                  try simp only [Act.put, List.setIfInBounds_toArray, List.set_cons_zero, List.set_cons_succ]
                  refine wpAnyH_takeD (i := 9) (d := (some 135)) (v := ?_) rfl rfl (by kernel_rfl) (by kernel_rfl) (by kernel_rfl) (fun _ _ _ h => h) (Or.inl ⟨by rfl, ?_⟩) (by assumption) ?_
                  rotate_left
                  · ((intro w hSw; go_simp) <;> with_reducible rfl)
                  try simp only [Act.put, List.setIfInBounds_toArray, List.set_cons_zero, List.set_cons_succ]
                  refine wpAnyH_ready (rs := [10]) (by kernel_rfl) (by simp) ?_
                  refine AllReadyH.cons rfl (fun K hK => ?_) (AllReadyH.nil)
                  obtain ⟨y1, z1⟩ := ro_cf kv.out 4 _ rfl
                  go_simp
                  refine hK.out _ _ (hide (hHeld.out.set _)) (fun hHeld => ?_)
                  clear hK K
                  clear y1 z1
                  replace o4 := hide (o4.out.butT kv.out (by decide) ((But.refl gv v3).set (o := 4) (.slice A4' (n4 + 1) c4')))
                  replace kv := hide (show Ro (v3.setCell ⟨gv, 4, none⟩ (.slice A4' (n4 + 1) c4')) gv #[.slice A0 n0 c0, .slice A1 n1 c1, .slice AT nT cT, .slice AC S.ch.n cC, .slice A4' (n4 + 1) c4', .slice AS nS cS, .slice AU nU cU] 28 from by have := ro_set kv.out 4 (.slice A4' (n4 + 1) c4'); simpa using this)
                  generalize v3.setCell ⟨gv, 4, none⟩ (.slice A4' (n4 + 1) c4') = v4 at *
                  try simp only [Act.put, List.setIfInBounds_toArray, List.set_cons_zero, List.set_cons_succ]
                  refine wpAnyH_done (by kernel_rfl) ?_ _
                  have bt := hHeld
                  clear hHeld
                  go_wp2_with fail
                  go_roundw
                  case rel => exact ⟨m + 1, n4 + 1, c4', A4', by omega, by go_num, kv, by rw [ht.out, lcs_app, lcs_one]; exact o4, bt⟩
                  case measure => simp [intOf]; omega
              · rw [if_neg hle] at ht
                have g1 : decide (l0 ≤ 2147483647) = false := decide_eq_false hle
                replace hle := hide hle
                go_wp2
                go_roundw
                case rel => exact ⟨m + 1, n4, c4, A4, by omega, by go_num, kv, by rw [ht.out]; exact o4, bt⟩
                case measure => simp [intOf]; omega
            · obtain rfl : m = S.lp.n := by omega
              rw [fL.out] at o4
              clear hm hlt gp fL
              replace k2 := hide (ro_but k2.out bt.out hk2v.out)
              have b0 := hide (o0.out.butT kv2.out (by decide) bt.out)
              have b1 := hide (o1.out.butT kv2.out (by decide) bt.out)
              have bT := hide (oT.out.butT kv2.out (by decide) bt.out)
              have bC := hide (oC.out.butT kv2.out (by decide) bt.out)
              have bS := hide (oS.out.butT kv2.out (by decide) bt.out)
              have bU := hide (oU.out.butT kv2.out (by decide) bt.out)
              have b4 := hide (o4.out.mono hb1.out.size)
              have hbr := hide (But.down hb1.out hgw.out bt.out)
              clear o0 o1 oT oC oS oU o4 kv2 bt hb1 k
              obtain ⟨Vb, hVb⟩ : ∃ Vb : BkS, Vb = ⟨⟨A0, n0, c0⟩, ⟨A1, n1, c1⟩, ⟨AT, nT, cT⟩, ⟨AC, S.ch.n, cC⟩, ⟨A4, n4, c4⟩, ⟨AS, nS, cS⟩, ⟨AU, nU, cU⟩⟩ := ⟨_, rfl⟩
              have G5 := gr_blk Vb
              rw [show blA Vb = #[.slice A0 n0 c0, .slice A1 n1 c1, .slice AT nT cT, .slice AC S.ch.n cC, .slice A4 n4 c4, .slice AS nS cS, .slice AU nU cU] from by rw [hVb]] at G5
              go_wp2_with (first | (refine load_row_g (by rfl) 28 _ rfl _ rfl _ _ _ kv.out Try.underlying28 rfl G5.1 ?_) | (refine wpList_store_row rfl 28 _ _ rfl (w.heap.size + 1) #[.slice A0 n0 c0, .slice A1 n1 c1, .slice AT nT cT, .slice AC S.ch.n cC, .slice A4 n4 c4, .slice AS nS cS, .slice AU nU cU] rfl rfl _ _ k2.out G5.1 rfl G5.2.2 ?_) | fail)
              have bb := but_row (But.refl (w.heap.size + 1) wr) #[.slice A0 n0 c0, .slice A1 n1 c1, .slice AT nT cT, .slice AC S.ch.n cC, .slice A4 n4 c4, .slice AS nS cS, .slice AU nU cU]
              replace b0 := hide (b0.out.butT k2.out (by decide) bb)
              replace b1 := hide (b1.out.butT k2.out (by decide) bb)
              replace bT := hide (bT.out.butT k2.out (by decide) bb)
              replace bC := hide (bC.out.butT k2.out (by decide) bb)
              replace bS := hide (bS.out.butT k2.out (by decide) bb)
              replace bU := hide (bU.out.butT k2.out (by decide) bb)
              replace b4 := hide (b4.out.butT k2.out (by decide) bb)
              replace hbr := hide (bl_row hbr.out (Nat.le_succ w.heap.size) #[.slice A0 n0 c0, .slice A1 n1 c1, .slice AT nT cT, .slice AC S.ch.n cC, .slice A4 n4 c4, .slice AS nS cS, .slice AU nU cU])
              replace k2 := hide (ro_row k2.out #[.slice A0 n0 c0, .slice A1 n1 c1, .slice AT nT cT, .slice AC S.ch.n cC, .slice A4 n4 c4, .slice AS nS cS, .slice AU nU cU])
              clear bb kv
              generalize wr.setRow (w.heap.size + 1) #[.slice A0 n0 c0, .slice A1 n1 c1, .slice AT nT cT, .slice AC S.ch.n cC, .slice A4 n4 c4, .slice AS nS cS, .slice AU nU cU] = w9 at *
              refine bodyPost_ret (v := bkV Vb) (by simp [results, Try.results18, go_sem, hVb, (ro_cf k2.out 0 _ rfl).1, (ro_cf k2.out 1 _ rfl).1, (ro_cf k2.out 2 _ rfl).1, (ro_cf k2.out 3 _ rfl).1, (ro_cf k2.out 4 _ rfl).1, (ro_cf k2.out 5 _ rfl).1, (ro_cf k2.out 6 _ rfl).1]) rfl ⟨Vb, rfl, ?_, hbr.out⟩
              obtain ⟨v2, v3, v5, v6⟩ := fV.out
              rw [hVb]
              exact ⟨b0.out, b1.out, by rw [v2]; exact bT.out, by rw [v3]; exact bC.out, b4.out, by rw [v5]; exact bS.out, by rw [v6]; exact bU.out, hok.out⟩
end r22_
end Go.Proofs.Ytgbojkbhkjameaa

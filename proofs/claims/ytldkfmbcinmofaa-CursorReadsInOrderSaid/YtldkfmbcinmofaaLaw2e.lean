/-
  THE WALK OF CursorReadsInOrder (zoneinfolaw02): for every input the law returns true and writes nothing that was there. No conditions.
-/
import Derived.Test.YtldkfmbcinmofaaLaw2
import Derived.Deep.RegionHeld3
import Derived.Deep.DeepCutAuto
import Derived.Deep.CutRange
namespace Go.Proofs.Ytldkfmbcinmofaa
open Go.ChangeShapes Go.WideShapes Go.ChangeAt Go.RowKit
set_option linter.unusedVariables false
section
variable {w w' : World} {g : Nat} {vs : List Value}
theorem Bx.grown {row : Option Nat} (h : Bx w g vs) (hg : w.grownBy w' row) (hne : some g ≠ row) : Bx w' g vs :=
  ⟨Nat.lt_of_lt_of_le h.1 hg.size, fun j v hj => by rw [hg.cell_far ⟨g, j, none⟩ h.1 hne]; exact h.2.1 j v hj, fun j => by rw [hg.frozen_far ⟨g, j, none⟩ h.1 hne]; exact h.2.2 j⟩
end
section
variable {P : Program} {t e : TypeId} {z : Value} {by_ : Nat} {ops : Array Oper} {rest : List Oper} {o : Oper} {a : Act} {Q : Exit → Act → World → Prop}
/-- 'apn', and every struct in a block of its own that is not the slice's stays. -/
theorem apnK (E : ElT P t e z by_) {W w0 : World} {b B : Nat} {A : Option Addr} {n c : Nat} {xs : List Value} (hown : Ow W b e A n c xs) (hB : Below B w0 W) (hBb : B ≤ b)
    {S : Option Addr} {m d : Nat} {news : List Value} (hr : Rd W S m news)
    (s x : Operand) (hgd : o.guard = none) (ho : o.op = .call { callee := .builtin .append, args := #[s, x], argTypes := #[t, t] })
    (hs : a.eval s = .slice A n c) (hx : a.eval x = .slice S m d) (hS : S = none → m = 0 ∧ d = 0) (h1 : ∀ u ∈ news, u.oneCell' = true) (hm : n + m ≤ maxLen) (hby : (n + m) * by_ ≤ 140737488355328)
    (h : ∀ A' c' w', Ow w' b e A' (n + m) c' (xs ++ news) → Below B w0 w' → (∀ g vs, Bx W g vs → some g ≠ (Value.slice A n c).ownBlock → Bx w' g vs) → wpList P ops Q rest (a.put o.dst (.slice A' (n + m) c')) w') :
    wpList P ops Q (o :: rest) a W := by
  obtain ⟨i, hi, hz, hsz, hbb⟩ := info_parts E.2.1
  rcases S with _ | ad
  · obtain ⟨rfl, rfl⟩ := hS rfl
    have hn : news = [] := List.eq_nil_of_length_eq_zero (by have := hr.len; omega)
    subst hn
    refine wpList_append_own_none hgd s x t ho b e i 1 E.1 hi (.slice A n c) n xs hs hown.2 hx ?_
    have := h A c W (by simpa using hown) hB (fun _ _ h _ => h)
    simpa using this
  · refine wpList_append_own _ hgd s x t ho b e i z 1 by_ E.1 hi hz hsz hbb (by rw [E.2.2]; rfl) (by omega) (.slice A n c) n xs hs hown.2 ad m d news hx (by have := hr.len; omega) ?_ h1 hm hby hown.1 ?_
    · intro j v hj
      have hl : j < m := by
        have := hr.len
        have := (List.getElem?_eq_some_iff.1 hj).1
        omega
      obtain ⟨ad', e', hc⟩ := hr.2 (by omega)
      cases e'
      exact hc j v hj
    · intro v' w' hown' hg hnil
      have hsz := hown.1
      have hlt := hown.lt
      have hB' : Below B w0 w' := hB.grown hg (by omega) (fun k hk => by have := (hlt k hk).1; omega)
      have hb' : b ≤ w'.heap.size := by have := hg.size; omega
      rcases hown'.2 with ⟨rfl, h0⟩ | ⟨g, cap, cur, rfl, _⟩
      · have e0 : n + m = 0 := h0
        have := h none 0 w' ⟨hb', by rw [e0] at hown' ⊢; exact hown'⟩ hB' (fun _ _ h hne => h.grown hg hne)
        rw [e0] at this
        exact this
      · exact h _ _ _ ⟨hb', hown'⟩ hB' (fun _ _ h hne => h.grown hg hne)
end
namespace cu_
theorem Rest_is {A : Option Addr} {n c : Nat} {p a : Int} {w : World} (v : Int) (hn : n ≤ 9223372036854775807) (h0 : 0 ≤ p) (h1 : p ≤ n) (hv : (n : Int) - p = v) :
    Calls Try.prog 9 #[cu A n c p 0 a] w fun e w' => e = .returned (.int .i64 v) ∧ Below w.heap.size w w' := by
  subst hv
  exact Rest_ok A n c p a w hn h0 h1
end cu_
namespace l2_
theorem cellE {W w1 : World} (hb : Below W.heap.size W w1) {a : Addr} {v : Value} (h : W.cell? a = some v) : w1.cell? a = some v := by
  rw [hb.cell (cell_lt h)]
  exact h
theorem cellA {W : World} {a : Addr} {v : Value} {o : Obj} (h : W.cell? a = some v) : (W.alloc o).cell? a = some v := cellE (bl_new W o) h
theorem hidBx {W w1 : World} {g : Nat} {vs : List Value} (h : Hid (Bx W g vs)) (hb : Below W.heap.size W w1) : Hid (Bx w1 g vs) := hide (h.out.below hb)
theorem hidOw {W w1 : World} {b : Nat} {e : TypeId} {A : Option Addr} {n c : Nat} {xs : List Value} (h : Hid (Ow W b e A n c xs)) (hb : Below W.heap.size W w1) : Hid (Ow w1 b e A n c xs) := hide (h.out.below hb)
/-- the rest as one piece more. -/
theorem fld_take (l : List Int) (P K : Nat) : (l.take P).map (Value.int .u8) ++ (fld l P K).map (Value.int .u8) = (l.take (P + K)).map (Value.int .u8) := by
  rw [← List.map_append]
  unfold fld
  rw [List.take_add]
theorem ow_ne {w : World} {b : Nat} {e : TypeId} {A : Option Addr} {n c : Nat} {xs : List Value} (h : Ow w b e A n c xs) {g : Nat} (hg : g < b ∨ w.heap.size ≤ g) : some g ≠ (Value.slice A n c).ownBlock := by
  intro h'
  have := h.lt g h'.symm
  omega
theorem ow_away4 {w : World} {b : Nat} {e : TypeId} {A : Option Addr} {n k : Nat} {xs : List Value} (h : Ow w b e A n k xs) {g : Nat} (hg : some g ≠ (Value.slice A n k).ownBlock) (p q r t : Value) :
    Ow ((((w.setCell ⟨g, 0, none⟩ p).setCell ⟨g, 1, none⟩ q).setCell ⟨g, 2, none⟩ r).setCell ⟨g, 3, none⟩ t) b e A n k xs := by
  have one : ∀ {w : World} (h : Ow w b e A n k xs) (o : Nat) (u : Value), Ow (w.setCell ⟨g, o, none⟩ u) b e A n k xs := fun h o u =>
    ⟨by have := h.1; simpa [World.setCell] using this, ownsRow_setCell_other h.2 (a := ⟨g, o, none⟩) (fun h' => hg h'.symm) u⟩
  exact one (one (one (one h 0 p) 1 q) 2 r) 3 t
set_option maxRecDepth 100000 in
set_option maxHeartbeats 8000000 in
theorem rio_main (A : Option Addr) (n c : Nat) (l : List Int) (B : Option Addr) (m d : Nat) (zs : List Int) (w : World) (hnil : A = none → n = 0 ∧ c = 0) (hn : n ≤ c) (hc : c ≤ 9223372036854775807) (hn2 : n ≤ 1000) (hm : m ≤ 100)
    (hr : Rd w A n (l.map (Value.int .u8))) (hz : Rd w B m (zs.map (Value.int .u8))) (hzb : Bytes zs) :
    Calls Try.prog 3 #[.slice A n c, .slice B m d] w fun e w' => e = .returned (.bool true) ∧ Below w.heap.size w w' := by
  have Hr := hide hr
  have Hz := hide hz
  have Hnil := hide hnil
  have Hzb := hide hzb
  have Hlen := hide (show l.length = n by simpa using hr.len)
  clear hr hz hnil hzb
  go_enter Try.func3, Try.ntmps3
  go_wp2_with fail
  refine (awake _).mono ?_
  rintro e w1 ⟨rfl, hb⟩
  have B1 := hide hb
  clear hb
  go_wp2_with fail
  refine (cu_.New _ _ _ _).mono ?_
  rintro e w2 ⟨rfl, hb⟩
  have B2 := hide (bel_next B1.out hb)
  clear hb B1
  obtain ⟨g, hg⟩ : ∃ g, g = w2.heap.size := ⟨_, rfl⟩
  have b5 := hide (Bx.new4 w2 (.slice A n c) (.int .i64 0) (.int .i64 0) (.int .i64 0) 26)
  have ho0 := hide (Ow.nil (w := w2.alloc (.cells #[.slice A n c, .int .i64 0, .int .i64 0, .int .i64 0] 26)) (b := w2.heap.size + 1) (by simp) 5)
  rw [← hg] at b5 ho0
  have hgw : w.heap.size ≤ g := by have := B2.out.size; omega
  have BB := hide (bl_alloc B2.out (.cells #[.slice A n c, .int .i64 0, .int .i64 0, .int .i64 0] 26))
  have Hg := hide hg
  go_wp2
  rw [← hg]
  clear hg
  go_loopw [6, 7] (fun al i wr => ∃ (P k : Nat) (A' : Option Addr) (c' : Nat), P ≤ n ∧ k ≤ m ∧ i = .int .i64 (k : Nat) ∧ al = .slice A' P c' ∧ Ow wr (g + 1) 5 A' P c' ((l.take P).map (Value.int .u8)) ∧ Bx wr g [.slice A n c, .int .i64 (P : Nat), .int .i64 0, .int .i64 0] ∧ Below w.heap.size w wr) (fun _ i _ => m - (intOf i).toNat)
  case atStart =>
    exact ⟨0, 0, none, 0, by omega, by omega, rfl, rfl, by simpa using ho0.out, b5.out, BB.out⟩
  case round =>
    obtain ⟨P, k, A', c', hP, hk, rfl, rfl, ho, hb5, hB⟩ := hrel
    have hcp := ho.cap
    have ho := hide ho
    have b5 := hide hb5
    have BB := hide hB
    clear hb5 hB
    by_cases hlt : k < m
    · obtain ⟨ad, rfl, hcz⟩ := (Hz.out.below BB.out).int hlt
      obtain ⟨v0, v1⟩ := Hzb.out k
      generalize hv : zs[k]?.getD 0 = v at *
      clear hv
      obtain ⟨b5a, b5b, b5c, b5d⟩ := b5.out.cells4
      have b5l := b5.out.lt
      obtain ⟨K, hK⟩ : ∃ K : Nat, (v % 8 ≤ (n : Int) - P ∧ v % 8 = K) ∨ ((n : Int) - P < v % 8 ∧ (n : Int) - P = K) := by
        by_cases h : v % 8 ≤ (n : Int) - P
        · exact ⟨(v % 8).toNat, .inl ⟨h, by omega⟩⟩
        · exact ⟨n - P, .inr ⟨by omega, by omega⟩⟩
      have hif : (if (n : Int) - P < v % 8 then (n : Int) - P else v % 8) = K := by
        rcases hK with ⟨h1, h2⟩ | ⟨h1, h2⟩
        · rw [if_neg (by omega)]; exact h2
        · rw [if_pos h1]; exact h2
      have hPK : P + K ≤ n := by omega
      have Hif := hide hif
      clear hif hK
      have hmod : v.tmod 8 = v % 8 := Int.tmod_eq_emod_of_nonneg v0
      have hm0 : 0 ≤ v % 8 := by omega
      have hm1 : v % 8 < 8 := by omega
      have hw8 : IntKind.u8.wrap (v % 8) = v % 8 := by rw [IntKind.wrap_u8]; omega
      have hw64 : IntKind.i64.wrap (v % 8) = v % 8 := by rw [IntKind.wrap_i64]; omega
      have hnP : 0 ≤ (n : Int) - P := by omega
      go_wp2_with fail
      go_region_held3 (fun w' => w'.cell? (ad.add k) = some (.int .u8 v) ∧ w'.cell? ⟨g, 0, none⟩ = some (.slice A n c) ∧ w'.cell? ⟨g, 1, none⟩ = some (.int .i64 (P : Nat)) ∧ w'.cell? ⟨g, 2, none⟩ = some (.int .i64 0) ∧ w'.cell? ⟨g, 3, none⟩ = some (.int .i64 0))
        (first
          | exact ⟨hcz, b5a, b5b, b5c, b5d⟩
          | (go_split_ands; exact ⟨cellE hb (by assumption), cellE hb (by assumption), cellE hb (by assumption), cellE hb (by assumption), cellE hb (by assumption)⟩))
        (first
          | (go_at_call 9; refine (cu_.Rest_ok _ _ _ _ _ _ (by omega) (by omega) (by omega)).mono ?_; rintro e w3 ⟨rfl, hb⟩))
      rw [Hif.out]
      have b5 := hide (b5.out.drew.below hb)
      have ho := hide (ho.out.drew.below hb)
      have BB := hide (bel_next (bl_drew BB.out) hb)
      clear hb b5a b5b b5c b5d b5l hcz hmod hm0 hm1 hw8 hw64 hnP Hif v0 v1
      obtain ⟨b5a, b5b, b5c, b5d⟩ := b5.out.cells4
      have b5l := b5.out.lt
      obtain ⟨Q, hQ⟩ : ∃ Q, P + K = Q := ⟨_, rfl⟩
      obtain ⟨R, hR⟩ : ∃ R, n = Q + R := ⟨n - Q, by omega⟩
      have hQn : Q ≤ n := by omega
      have HT := hide (fun w hr => cu_.Take_is (A := A) (n := n) (c := c) (xs := l) (p := P) (k := K) P K Q (w := w) rfl rfl (by omega) Hnil.out hn hc (by omega) hPK hr)
      have HRd := hide (fun w => cu_.Rest_is (A := A) (n := n) (c := c) (p := Q) (a := 0) (w := w) R (by omega) (by omega) (by omega) (by omega))
      have HRc := hide (fun w => cu_.Rest_is (A := A) (n := n) (c := c) (p := P) (a := 0) (w := w) ((R : Int) + K) (by omega) (by omega) (by omega) (by omega))
      have hs1 : IntKind.i64.wrap ((P : Int) + K) = Q := by rw [IntKind.wrap_i64]; omega
      have hs2 : IntKind.i64.wrap ((R : Int) + K - K) = R := by rw [IntKind.wrap_i64]; omega
      have hs3 : IntKind.i64.wrap (R : Int) = R := by rw [IntKind.wrap_i64]; omega
      have HQ := hide hQ
      have HR := hide hR
      clear hQ hR
      go_wp2_with fail
      refine (HT.out _ (Hr.out.below BB.out)).mono ?_
      rintro e w4 ⟨A4, c4, rfl, hp, hb⟩
      have b5 := hide (b5.out.below hb)
      have ho := hide (ho.out.below hb)
      have BB := hide (bel_next BB.out hb)
      have hp4 := hp.nilcap
      have hpn := hide hp4
      have hp := hide hp.rd
      have hg4 : g < w4.heap.size := b5.out.lt
      have b10 := hide (Bx.new4 w4 (.slice A n c) (.int .i64 (Q : Nat)) (.int .i64 0) (.int .i64 0) 26)
      clear hb b5a b5b b5c b5d b5l hp4
      obtain ⟨b5a, b5b, b5c, b5d⟩ := (b5.out.alloc (.cells #[.slice A n c, .int .i64 (Q : Nat), .int .i64 0, .int .i64 0] 26)).cells4
      obtain ⟨b10a, b10b, b10c, b10d⟩ := b10.out.cells4
      go_wp2_with fail
      go_region_held3 (fun w' => w'.cell? ⟨g, 0, none⟩ = some (.slice A n c) ∧ w'.cell? ⟨g, 1, none⟩ = some (.int .i64 (P : Nat)) ∧ w'.cell? ⟨g, 2, none⟩ = some (.int .i64 0) ∧ w'.cell? ⟨g, 3, none⟩ = some (.int .i64 0) ∧
          w'.cell? ⟨w4.heap.size, 0, none⟩ = some (.slice A n c) ∧ w'.cell? ⟨w4.heap.size, 1, none⟩ = some (.int .i64 (Q : Nat)) ∧ w'.cell? ⟨w4.heap.size, 2, none⟩ = some (.int .i64 0) ∧ w'.cell? ⟨w4.heap.size, 3, none⟩ = some (.int .i64 0))
        (first
          | exact ⟨b5a, b5b, b5c, b5d, b10a, b10b, b10c, b10d⟩
          | (go_split_ands; exact ⟨cellE hbc (by assumption), cellE hbc (by assumption), cellE hbc (by assumption), cellE hbc (by assumption), cellE hbc (by assumption), cellE hbc (by assumption), cellE hbc (by assumption), cellE hbc (by assumption)⟩)
          | (go_split_ands; exact ⟨cellE hbd (by assumption), cellE hbd (by assumption), cellE hbd (by assumption), cellE hbd (by assumption), cellE hbd (by assumption), cellE hbd (by assumption), cellE hbd (by assumption), cellE hbd (by assumption)⟩))
        (first
          | (go_at_call 9; (with_reducible refine (HRd.out _).mono ?_); rintro e w5 ⟨rfl, hbd⟩)
          | (go_at_call 9; (with_reducible refine (HRc.out _).mono ?_); rintro e w6 ⟨rfl, hbc⟩))
      have hn10 := hide (ow_ne ho.out (.inr (Nat.le_refl w4.heap.size)))
      have hn5 := hide (ow_ne ho.out (g := g) (.inl (Nat.lt_succ_self g)))
      have b5 := hide (((b5.out.alloc _).drew.below hbd).below hbc)
      have b10 := hide ((b10.out.drew.below hbd).below hbc)
      have ho := hide (((ho.out.alloc _).drew.below hbd).below hbc)
      have hp := hide (((hp.out.alloc _).drew.below hbd).below hbc)
      have BB := hide (bel_next (bel_next (bl_drew (bl_alloc BB.out _)) hbd) hbc)
      have Hone := hide (oneCells .u8 (fld l P K))
      have hQP : P + K = Q := HQ.out
      have HQP := hide hQP
      clear hbd hbc hs1 hs2 hs3 b5a b5b b5c b5d b10a b10b b10c b10d hQP
      go_wp2_with (at_builtin; refine apnK elU8 ho.out (Below.refl (g + 1) w6) (Nat.le_refl _) hp.out (.tmp 78) (.tmp 79) rfl rfl rfl rfl hpn.out Hone.out (by simp [maxLen]; omega) (by omega) ?_; intro A7 c7 w7 ho7 hb7 hk7; have b5 := hide (hk7 _ _ b5.out hn5.out); have b10 := hide (hk7 _ _ b10.out hn10.out); have ho7 := hide ho7; have BB := hide (BB.out.trans (hb7.mono (Nat.le_succ_of_le hgw))); obtain ⟨b5a, b5b, b5c, b5d⟩ := b5.out.cells4; have b5f := b5.out.fr; obtain ⟨b10a, b10b, b10c, b10d⟩ := b10.out.cells4; clear hk7 hb7)
      go_roundw
      case rel =>
        have ho8 := ho7.out
        rw [fld_take, HQP.out] at ho8
        exact ⟨Q, k + 1, A7, c7, hQn, by omega, by go_num, by rw [HQP.out], (((ho8.setLow 0 (Nat.lt_succ_self g) _).setLow 1 (Nat.lt_succ_self g) _).setLow 2 (Nat.lt_succ_self g) _).setLow 3 (Nat.lt_succ_self g) _, b5.out.store4, bl_set4 BB.out hgw⟩
      case measure => simp [intOf]; omega
    · obtain rfl : k = m := by omega
      obtain ⟨b5a, b5b, b5c, b5d⟩ := b5.out.cells4
      have b5l := b5.out.lt
      obtain ⟨R, hR⟩ : ∃ R, P + R = n := ⟨n - P, by omega⟩
      have HT := hide (fun w hr => cu_.Take_is (A := A) (n := n) (c := c) (xs := l) (p := P) (k := R) P R n (w := w) rfl rfl (by omega) Hnil.out hn hc (by omega) (by omega) hr)
      have HRc := hide (fun w => cu_.Rest_is (A := A) (n := n) (c := c) (p := P) (a := 0) (w := w) R (by omega) (by omega) (by omega) (by omega))
      have HR := hide hR
      clear hR
      have Z0 := hide (Bx.new4 wr (.slice none 0 0) (.int .i64 0) (.int .i64 0) (.int .i64 0) 26).drew
      go_upto_region 14 with fail
      go_cut [11, 12] (fun s1 s2 wx => ∃ (g12 : Nat) (Ae : Option Addr) (ce : Nat), s1 = .slice Ae R ce ∧ s2 = .pointer (some ⟨g12, 0, none⟩) ∧ wr.heap.size ≤ g12 ∧ Hid (Ae = none → R = 0 ∧ ce = 0) ∧ Bx wx g12 [.slice A n c, .int .i64 n, .int .i64 0, .int .i64 0] ∧ Rd wx Ae R ((fld l P R).map (Value.int .u8)) ∧ Ow wx (g + 1) 5 A' P c' ((l.take P).map (Value.int .u8)) ∧ Below w.heap.size w wx)
      case first =>
        go_region_held3 (fun w' => w'.cell? ⟨g, 0, none⟩ = some (.slice A n c) ∧ w'.cell? ⟨g, 1, none⟩ = some (.int .i64 (P : Nat)) ∧ w'.cell? ⟨g, 2, none⟩ = some (.int .i64 0) ∧ w'.cell? ⟨g, 3, none⟩ = some (.int .i64 0))
          (first
            | with_reducible exact b5.out.drew.cells4
            | with_reducible exact q7.out.cells4
            | with_reducible exact (q7.out.alloc _).cells4
            | with_reducible exact (q7.out.away4 (by omega)).cells4
            | with_reducible exact q6.out.cells4
            | with_reducible exact (q6.out.alloc _).cells4
            | with_reducible exact (b5.out.alloc _).drew.cells4
            | with_reducible exact (q6.out.alloc _).drew.cells4
            | with_reducible exact (b5.out.drew.alloc _).cells4)
          (first
          | (go_at_call 9; refine (HRc.out _).mono ?_; rintro e w6 ⟨rfl, hbR⟩; obtain ⟨q6, qo, B6⟩ : Bx w6 g [.slice A n c, .int .i64 (P : Nat), .int .i64 0, .int .i64 0] ∧ Ow w6 (g + 1) 5 A' P c' ((l.take P).map (Value.int .u8)) ∧ Below w.heap.size w w6 := (by first | with_reducible exact ⟨b5.out.drew.below hbR, ho.out.drew.below hbR, bel_next (bl_drew BB.out) hbR⟩ | with_reducible exact ⟨(b5.out.alloc _).drew.below hbR, (ho.out.alloc _).drew.below hbR, bel_next (bl_drew (bl_alloc BB.out _)) hbR⟩ | with_reducible exact ⟨(b5.out.drew.alloc _).below hbR, (ho.out.drew.alloc _).below hbR, bel_next (bl_alloc (bl_drew BB.out) _) hbR⟩); have q6l := q6.lt; have hwr : wr.heap.size ≤ w6.heap.size := (by have := hbR.size; first | exact this | (simp at this; omega)); have q6 := hide q6; have qo := hide qo; have B6 := hide B6; (try ((with_reducible have q0 := hide (Z0.out.below hbR)); have q0l := q0.out.lt)))
          | (go_at_call 10; refine (HT.out _ ?_).mono ?_; (first | with_reducible exact Hr.out.below B6.out | with_reducible exact (Hr.out.below B6.out).alloc _); rintro e w7 ⟨Ae, ce, rfl, hp, hbT⟩; obtain ⟨q7, qo, B7⟩ : Bx w7 g [.slice A n c, .int .i64 (P : Nat), .int .i64 0, .int .i64 0] ∧ Ow w7 (g + 1) 5 A' P c' ((l.take P).map (Value.int .u8)) ∧ Below w.heap.size w w7 := (by first | with_reducible exact ⟨q6.out.below hbT, qo.out.below hbT, bel_next B6.out hbT⟩ | with_reducible exact ⟨(q6.out.alloc _).below hbT, (qo.out.alloc _).below hbT, bel_next (bl_alloc B6.out _) hbT⟩); have hw67 : w6.heap.size ≤ w7.heap.size := (by have := hbT.size; first | exact this | (simp at this; omega)); have q7 := hide q7; have qo := hide qo; have B7 := hide B7; have hp := hide hp; (try ((with_reducible have q0 := hide (q0.out.below hbT)); obtain ⟨y0, y1, y2, y3⟩ := q0.out.cells4; have y4 := q0.out.fr)); (try ((with_reducible have q0 := hide ((Bx.new4 w6 (.slice none 0 0) (.int .i64 0) (.int .i64 0) (.int .i64 0) 26).below hbT)); obtain ⟨y0, y1, y2, y3⟩ := q0.out.cells4; have y4 := q0.out.fr))))
        all_goals go_wp2_with fail
        all_goals go_meet
        all_goals first
          | exact ⟨w7.heap.size, Ae, ce, rfl, rfl, by omega, hide hp.out.nilcap, Bx.new4 _ _ _ _ _ _, hp.out.rd.alloc _, qo.out.alloc _, bl_alloc B7.out _⟩
          | exact ⟨wr.heap.size, Ae, ce, rfl, rfl, by omega, hide hp.out.nilcap, q0.out.store4, (ow_away4 hp.out (ow_ne hp.out (.inl q0l)) _ _ _ _).rd, ow_away4 qo.out (ow_ne ho.out (.inr (Nat.le_refl _))) _ _ _ _, bl_set4 B7.out (by have := BB.out.size; omega)⟩
          | exact ⟨w6.heap.size, Ae, ce, rfl, rfl, by omega, hide hp.out.nilcap, q0.out.store4, (ow_away4 hp.out (ow_ne hp.out (.inl (by simp))) _ _ _ _).rd, ow_away4 qo.out (ow_ne ho.out (.inr (by omega))) _ _ _ _, bl_set4 B7.out (by have := BB.out.size; omega)⟩
      obtain ⟨g12, Ae, ce, rfl, rfl, hg12, hAe, h12, he, hoc, hB⟩ := hcut
      have hn12 := hide (ow_ne ho.out (.inr hg12))
      have b12 := hide h12
      have he := hide he
      have ho := hide hoc
      have BB := hide hB
      clear h12 hoc hB b5 b5a b5b b5c b5d b5l
      obtain ⟨b12a, b12b, b12c, b12d⟩ := b12.out.cells4
      have b12l := b12.out.lt
      go_wp2_with fail
      refine (cu_.Take_no A n c n 0 1 _ (by omega) (by omega) (by omega) (by omega)).mono ?_
      rintro e w8 ⟨A8, c8, rfl, hx, hb⟩
      have b12 := hide (b12.out.below hb)
      have ho := hide (ho.out.below hb)
      have he := hide (he.out.below hb)
      have BB := hide (bel_next BB.out hb)
      clear hb hx b12a b12b b12c b12d b12l
      have b14 := hide (Bx.new4 w8 (.slice A n c) (.int .i64 n) (.int .i64 1) (.int .i64 n) 26)
      have hn14 := hide (ow_ne ho.out (.inr (Nat.le_refl w8.heap.size)))
      have b12 := hide (b12.out.alloc (.cells #[.slice A n c, .int .i64 n, .int .i64 1, .int .i64 n] 26))
      have ho := hide (ho.out.alloc (.cells #[.slice A n c, .int .i64 n, .int .i64 1, .int .i64 n] 26))
      have he := hide (he.out.alloc (.cells #[.slice A n c, .int .i64 n, .int .i64 1, .int .i64 n] 26))
      have BB := hide (bl_alloc BB.out (.cells #[.slice A n c, .int .i64 n, .int .i64 1, .int .i64 n] 26))
      have Hone := hide (oneCells .u8 (fld l P R))
      have hPR : P + R ≤ n := by have := HR.out; omega
      have hfull : (l.take (P + R)) = l := by
        have h1 := HR.out
        have h2 := Hlen.out
        exact List.take_of_length_le (by omega)
      have Hfull := hide hfull
      clear hfull
      go_wp2_with (at_builtin; refine apnK elU8 ho.out (Below.refl (g + 1) _) (Nat.le_refl _) he.out (.tmp 94) (.tmp 95) rfl rfl rfl rfl hAe.out Hone.out (by simp [maxLen]; omega) (by omega) ?_; intro A9 c9 w9 ho9 hb9 hk9; have b12 := hide (hk9 _ _ b12.out hn12.out); have b14 := hide (hk9 _ _ b14.out hn14.out); have ho9 := hide ho9; have BB := hide (BB.out.trans (hb9.mono (Nat.le_succ_of_le hgw))); clear hk9 hb9)
      have hr9 := ho9.out.rd
      rw [fld_take, Hfull.out] at hr9
      refine (r1_.Same _ _ _ _ _ _ l _ (by omega) hr9 (Hr.out.below BB.out)).mono ?_
      rintro e w10 ⟨rfl, hb⟩
      have b12 := hide (b12.out.below hb)
      have b14 := hide (b14.out.below hb)
      have BB := hide (bel_next BB.out hb)
      clear hb hr9
      obtain ⟨b12a, b12b, b12c, b12d⟩ := b12.out.cells4
      obtain ⟨b14a, b14b, b14c, b14d⟩ := b14.out.cells4
      go_wp2
      go_ret
      exact ⟨rfl, BB.out⟩
set_option maxRecDepth 100000 in
set_option maxHeartbeats 1000000 in
theorem readsInOrder (a0 : Option Addr) (len0 cap0 : Nat) (z0 : List Int) (a1 : Option Addr) (len1 cap1 : Nat) (z1 : List Int) (w : World) (w0 : IsRw .u8 w a0 len0 cap0 z0) (w1 : IsRw .u8 w a1 len1 cap1 z1) :
    Calls Try.prog 3 #[.slice a0 len0 cap0, .slice a1 len1 cap1] w fun e w' => e = .returned (.bool true) ∧ Below w.heap.size w w' := by
  obtain ⟨c1, c2⟩ := w0.cap
  obtain ⟨c3, c4⟩ := w1.cap
  have hr := w0.rd
  have hr1 := w1.rd
  have hnil := w0.nil
  have hzb : Bytes (z1.take len1) := bytes_of_mem fun x hx => wf_u8 (w1.wf x hx)
  clear w0 w1
  by_cases h : len0 ≤ 1000 ∧ len1 ≤ 100
  · exact rio_main a0 len0 cap0 (z0.take len0) a1 len1 cap1 (z1.take len1) w hnil c1 c2 h.1 h.2 hr hr1 hzb
  · have main : ∀ (_ : 1000 < len0 ∨ (len0 ≤ 1000 ∧ 100 < len1)), Calls Try.prog 3 #[.slice a0 len0 cap0, .slice a1 len1 cap1] w fun e w' => e = .returned (.bool true) ∧ Below w.heap.size w w' := by
      intro h'
      clear h hnil
      rcases h' with h | ⟨h, h'⟩
      all_goals
        go_enter Try.func3, Try.ntmps3
        go_wp2_with fail
        refine (awake _).mono ?_
        rintro e w1 ⟨rfl, hb⟩
        have B := hide hb
        clear hb
        go_wp2_with fail
        refine (awake _).mono ?_
        rintro e w2 ⟨rfl, hb⟩
        have B := hide (bel_next B.out hb)
        clear hb
        go_wp2
        go_ret
        exact ⟨rfl, B.out⟩
    exact main (by omega)
end l2_
end Go.Proofs.Ytldkfmbcinmofaa

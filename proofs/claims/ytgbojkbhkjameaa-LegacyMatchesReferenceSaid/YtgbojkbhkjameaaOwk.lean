/-
  WORDS ON SLICES OF STRUCTS (an element takes s cells), over no program: 'Rk' (a slice reads as a list of cells), 'Ok' (a slice of the call's own), laws of append for them. Plain theorems; no condition beyond what each states.
-/
import Derived.Test.YtgbojkbhkjameaaBase2
namespace Go.Proofs.Ytgbojkbhkjameaa
open Go.RowKit
set_option linter.unusedVariables false
set_option maxRecDepth 100000
def Rk (s : Nat) (w : World) (A : Option Addr) (n : Nat) (xs : List Value) : Prop :=
  xs.length = n * s ∧ (0 < n → ∃ ad, A = some ad ∧ ∀ i v, xs[i]? = some v → w.cell? (ad.add i) = some v)
section
variable {s : Nat} {w w' : World} {A : Option Addr} {n : Nat} {xs : List Value}
theorem Rk.len (h : Rk s w A n xs) : xs.length = n * s := h.1
theorem Rk.none_ (s : Nat) (w : World) : Rk s w none 0 [] := ⟨by simp, fun h => absurd h (by omega)⟩
theorem Rk.keep (h : Rk s w A n xs) (hk : ∀ p : Addr, p.block < w.heap.size → w'.cell? p = w.cell? p) : Rk s w' A n xs :=
  ⟨h.1, fun hn => by
    obtain ⟨ad, e, hc⟩ := h.2 hn
    exact ⟨ad, e, fun i v hi => by have := hc i v hi; rw [hk _ (cell_lt this)]; exact this⟩⟩
theorem Rk.below (h : Rk s w A n xs) (hb : Below w.heap.size w w') : Rk s w' A n xs := h.keep fun _ hp => hb.cell hp
theorem Rk.alloc (h : Rk s w A n xs) (o : Obj) : Rk s (w.alloc o) A n xs := h.below (bl_new w o)
theorem Rk.drew (h : Rk s w A n xs) : Rk s w.drew A n xs := h
theorem Rk.take (h : Rk s w A n xs) {k : Nat} (hk : k ≤ n) : Rk s w A k (xs.take (k * s)) := by
  have hle : k * s ≤ n * s := Nat.mul_le_mul_right s hk
  refine ⟨by rw [List.length_take, h.1]; omega, fun hn => ?_⟩
  obtain ⟨ad, e, hcell⟩ := h.2 (by omega)
  refine ⟨ad, e, fun i v hi => hcell i v ?_⟩
  rw [List.getElem?_take] at hi
  split at hi
  · exact hi
  · cases hi
theorem Rk.cut (h : Rk s w A n xs) {k cap : Nat} (hk : k ≤ n) (hc : n ≤ cap) : Rk s w (if cap = k then A else A.map (·.add (k * s))) (n - k) (xs.drop (k * s)) := by
  refine ⟨by rw [List.length_drop, h.1, Nat.sub_mul], fun hn => ?_⟩
  obtain ⟨ad, rfl, hcell⟩ := h.2 (by omega)
  rw [if_neg (by omega)]
  refine ⟨ad.add (k * s), rfl, fun i v hi => ?_⟩
  rw [addr_add]
  exact hcell _ v (by rw [← hi, List.getElem?_drop])
/-- the j-th cell of the i-th element. -/
theorem Rk.at_ (h : Rk s w A n xs) {i j : Nat} (hi : i < n) (hj : j < s) {v : Value} (hv : xs[i * s + j]? = some v) : ∃ ad, A = some ad ∧ w.cell? (ad.add (i * s + j)) = some v := by
  obtain ⟨ad, e, hc⟩ := h.2 (by omega)
  exact ⟨ad, e, hc _ v hv⟩
end
def Ok (s : Nat) (w : World) (b : Nat) (e : TypeId) (A : Option Addr) (n c : Nat) (xs : List Value) : Prop :=
  b ≤ w.heap.size ∧ w.ownsRow b e s (.slice A n c) n xs
section
variable {s : Nat} {w w' : World} {b : Nat} {e : TypeId} {A : Option Addr} {n c : Nat} {xs : List Value}
theorem Ok.len (h : Ok s w b e A n c xs) : xs.length = n * s := h.2.1
theorem Ok.base (h : Ok s w b e A n c xs) : b ≤ w.heap.size := h.1
theorem Ok.nil (hb : b ≤ w.heap.size) (s : Nat) (e : TypeId) : Ok s w b e none 0 0 [] := ⟨hb, World.ownsRow_nil _ _ _ _⟩
theorem Ok.cap (h : Ok s w b e A n c xs) : n ≤ c := by
  rcases h.2.2 with ⟨h', rfl⟩ | ⟨g, cap, cur, h', _, _, hn, _⟩
  · omega
  · injection h' with _ _ h3
    omega
theorem Ok.capMax (h : Ok s w b e A n c xs) : c ≤ maxLen := by
  rcases h.2.2 with ⟨h', rfl⟩ | ⟨g, cap, cur, h', _, _, hn, hm, _⟩
  · injection h' with _ _ h3
    omega
  · injection h' with _ _ h3
    omega
theorem Ok.nilcap (h : Ok s w b e A n c xs) (hA : A = none) : n = 0 ∧ c = 0 := by
  subst hA
  rcases h.2.2 with ⟨h', rfl⟩ | ⟨g, cap, cur, h', _⟩
  · injection h' with _ _ h3
    exact ⟨rfl, h3⟩
  · injection h' with h'
    cases h'
theorem Ok.lit (s : Nat) (w : World) (e : TypeId) (xs : List Value) (n : Nat) (hn : xs.length = n * s) (hm : n ≤ maxLen) : Ok s (w.alloc (.cells xs.toArray e)) w.heap.size e (some ⟨w.heap.size, 0, none⟩) n n xs :=
  ⟨by simp, by
    have := World.ownsRow_lit (size := s) (base := w.heap.size) (e := e) w xs.toArray n (Nat.le_refl _) hm (by simpa using hn)
    simpa using this⟩
theorem Ok.drew (h : Ok s w b e A n c xs) : Ok s w.drew b e A n c xs := ⟨h.1, h.2.drew⟩
theorem Ok.alloc (h : Ok s w b e A n c xs) (o : Obj) : Ok s (w.alloc o) b e A n c xs := ⟨by have := h.1; simp; omega, h.2.alloc o⟩
theorem Ok.lt (h : Ok s w b e A n c xs) : ∀ k, (Value.slice A n c).ownBlock = some k → b ≤ k ∧ k < w.heap.size := h.2.lt
theorem Ok.mono (h : Ok s w b e A n c xs) {b' : Nat} (hb : b' ≤ b) : Ok s w b' e A n c xs :=
  ⟨Nat.le_trans hb h.1, h.2.1, h.2.2.imp id fun ⟨g, cap, cur, e1, e2, e3⟩ => ⟨g, cap, cur, e1, Nat.le_trans hb e2, e3⟩⟩
theorem Ok.below (h : Ok s w b e A n c xs) (hb : Below w.heap.size w w') : Ok s w' b e A n c xs := by
  refine ⟨Nat.le_trans h.1 hb.size, h.2.1, ?_⟩
  rcases h.2.2 with h' | ⟨g, cap, cur, e1, e2, e3, e4⟩
  · exact .inl h'
  · refine .inr ⟨g, cap, cur, e1, e2, ?_, e4⟩
    have hg : g < w.heap.size := (h.2.lt g (by rw [e1]; rfl)).2
    exact (hb.block g hg).trans e3
theorem Ok.form (h : Ok s w b e A n c xs) (hn : 0 < n) : ∃ g, A = some ⟨g, 0, none⟩ ∧ b ≤ g ∧ g < w.heap.size := by
  rcases h.2.2 with ⟨_, h'⟩ | ⟨g, cap, cur, e1, e2, e3, e4⟩
  · omega
  · have hg : g < w.heap.size := (h.2.lt g (by rw [e1]; rfl)).2
    injection e1 with e1
    exact ⟨g, e1, e2, hg⟩
theorem Ok.rd (h : Ok s w b e A n c xs) : Rk s w A n xs := by
  refine ⟨h.len, fun hn => ?_⟩
  obtain ⟨g, rfl, _, _⟩ := h.form hn
  exact ⟨_, rfl, h.2.cells (g := g) rfl⟩
theorem Ok.cell {g : Nat} (h : Ok s w b e (some ⟨g, 0, none⟩) n c xs) (j : Nat) (hj : j < n * s) : w.cell? ⟨g, j, none⟩ = xs[j]? := h.2.cellAt j hj
theorem Ok.frozen {g : Nat} (h : Ok s w b e (some ⟨g, 0, none⟩) n c xs) (j : Nat) : w.frozen? ⟨g, j, none⟩ = false := h.2.frozenAt j
theorem Ok.set {g : Nat} (h : Ok s w b e (some ⟨g, 0, none⟩) n c xs) (j : Nat) (u : Value) : Ok s (w.setCell ⟨g, j, none⟩ u) b e (some ⟨g, 0, none⟩) n c (xs.set j u) :=
  ⟨by have := h.1; simpa [World.setCell] using this, (h.2.stored j u).1⟩
theorem Ok.setLow (h : Ok s w b e A n c xs) {g : Nat} (o : Nat) (hg : g < b) (u : Value) : Ok s (w.setCell ⟨g, o, none⟩ u) b e A n c xs :=
  ⟨by have := h.1; simpa [World.setCell] using this, ownsRow_setCell_below h.2 (a := ⟨g, o, none⟩) hg u⟩
theorem Ok.blk (h : Ok s w b e A n c xs) {g : Nat} (hg : oB A = some g) : b ≤ g ∧ g < w.heap.size := h.lt g (by rw [oB_own]; exact hg)
theorem Gw.ok {A A' A2 : Option Addr} (h : Gw w w' A A') (ho : Ok s w b e A2 n c xs) (hd : Dj A2 A) : Ok s w' b e A2 n c xs := by
  refine ⟨Nat.le_trans ho.1 h.size, ho.2.kept h.g ?_⟩
  rw [oB_own]
  rcases hA : oB A2 with _ | g
  · exact .inl rfl
  · exact .inr fun h' => hd g hA h'.symm
end
/-- the facts of a slice type whose elements take s cells. -/
def ElS (P : Program) (t e : TypeId) (s by_ : Nat) : Prop :=
  P.underlying t = some (.slice e) ∧ ∃ z : Value, (P.info? e).map (fun i => (i.zero, i.size, i.bytes)) = some (some z, s, by_) ∧ z.cells.size = s
section
variable {P : Program} {t e : TypeId} {s by_ : Nat} {ops : Array Oper} {rest : List Oper} {o : Oper} {a : Act} {Q : Exit → Act → World → Prop}
/-- 'append(out, xs...)' over structs, the source read, whatever its address: and all that lies apart stays. -/
theorem apK (E : ElS P t e s by_) (hs0 : 0 < s) {W w0 : World} {b B : Nat} {A : Option Addr} {n c : Nat} {xs : List Value} (hown : Ok s W b e A n c xs) (hB : Below B w0 W) (hBb : B ≤ b)
    {S : Option Addr} {m d : Nat} {news : List Value} (hr : Rk s W S m news)
    (u x : Operand) (hgd : o.guard = none) (ho : o.op = .call { callee := .builtin .append, args := #[u, x], argTypes := #[t, t] })
    (hs : a.eval u = .slice A n c) (hx : a.eval x = .slice S m d) (hS : S = none → m = 0 ∧ d = 0) (h1 : ∀ u ∈ news, u.oneCell' = true) (hm : n + m ≤ maxLen) (hby : (n + m) * by_ ≤ 140737488355328)
    (h : ∀ A' c' w', Ok s w' b e A' (n + m) c' (xs ++ news) → Below B w0 w' → Gw W w' A A' → wpList P ops Q rest (a.put o.dst (.slice A' (n + m) c')) w') :
    wpList P ops Q (o :: rest) a W := by
  obtain ⟨ht, z, hinfo, hzc⟩ := E
  obtain ⟨i, hi, hz, hsz, hbb⟩ := info_parts hinfo
  rcases S with _ | ad
  · obtain ⟨rfl, rfl⟩ := hS rfl
    have hn : news = [] := List.eq_nil_of_length_eq_zero (by have := hr.len; omega)
    subst hn
    refine wpList_append_own_none hgd u x t ho b e i s ht hi (.slice A n c) n xs hs hown.2 hx ?_
    have := h A c W (by simpa using hown) hB ⟨⟨rfl, rfl, rfl, Nat.le_refl _, fun _ _ _ => rfl⟩, .inl rfl⟩
    simpa using this
  · refine wpList_append_own_at (w := W) hgd u x t ho b e i z s by_ ht hi hz hsz hbb hzc hs0 (.slice A n c) n xs hs hown.2 ad m d news hx hr.len ?_ h1 hm hby hown.1 ?_
    · intro j v hj
      have hl : 0 < m := by
        rcases Nat.eq_zero_or_pos m with h0 | h0
        · have := hr.len
          rw [h0, Nat.zero_mul] at this
          have := (List.getElem?_eq_some_iff.1 hj).1
          omega
        · exact h0
      obtain ⟨ad', e', hc⟩ := hr.2 hl
      cases e'
      exact hc j v hj
    · intro v' w' hown' hg hnil hat
      rw [oB_own] at hg hat
      have hsz := hown.1
      have hB' : Below B w0 w' := hB.grown hg (by omega) (fun k hk => by have := (hown.blk hk).1; omega)
      have hb' : b ≤ w'.heap.size := by have := hg.size; omega
      rcases hown'.2 with ⟨rfl, h0⟩ | ⟨g, cap, cur, rfl, _⟩
      · have e0 : n + m = 0 := h0
        have := h none 0 w' ⟨hb', by rw [e0] at hown' ⊢; exact hown'⟩ hB' ⟨hg, hat⟩
        rw [e0] at this
        exact this
      · exact h _ _ _ ⟨hb', hown'⟩ hB' ⟨hg, hat⟩
/-- 'append(out, x)' of one struct, which has just been laid in a block of its own. -/
theorem ap1K (E : ElS P t e s by_) (hs0 : 0 < s) {W w0 : World} {b B : Nat} {A : Option Addr} {n c : Nat} {xs : List Value} (hown : Ok s W b e A n c xs) (hB : Below B w0 W) (hBb : B ≤ b)
    (news : List Value) (hn : news.length = s)
    (u x : Operand) (hgd : o.guard = none) (ho : o.op = .call { callee := .builtin .append, args := #[u, x], argTypes := #[t, t] })
    (hs : a.eval u = .slice A n c) (hx : a.eval x = .slice (some ⟨W.heap.size, 0, none⟩) 1 1) (h1 : ∀ u ∈ news, u.oneCell' = true) (hm : n + 1 ≤ maxLen) (hby : (n + 1) * by_ ≤ 140737488355328)
    (h : ∀ A' c' w', Ok s w' b e A' (n + 1) c' (xs ++ news) → Below B w0 w' → Gw (W.alloc (.cells news.toArray e)) w' A A' → wpList P ops Q rest (a.put o.dst (.slice A' (n + 1) c')) w') :
    wpList P ops Q (o :: rest) a (W.alloc (.cells news.toArray e)) := by
  refine apK E hs0 (hown.alloc _) (hB.alloc (by have := hown.1; omega) _) hBb (S := some ⟨W.heap.size, 0, none⟩) (m := 1) (d := 1) (news := news) ?_ u x hgd ho hs hx (fun h => by cases h) h1 hm hby h
  exact (Ok.lit s W e news 1 (by rw [hn, Nat.one_mul]) (by simp [maxLen])).rd
/-- 'append(out, xs...)' over structs as one step of a region that draws ('go_region_law'). -/
theorem step_apK (E : ElS P t e s by_) (hs0 : 0 < s) {EE : Prop} {K : Act → World → Prop} {W w0 : World} {b B : Nat} {A : Option Addr} {n c : Nat} {xs : List Value} (hown : Ok s W b e A n c xs) (hB : Below B w0 W) (hBb : B ≤ b)
    {S : Option Addr} {m d : Nat} {news : List Value} (hr : Rk s W S m news)
    (u x : Operand) (hgd : o.guard = none) (ho : o.op = .call { callee := .builtin .append, args := #[u, x], argTypes := #[t, t] })
    (hs : a.eval u = .slice A n c) (hx : a.eval x = .slice S m d) (hS : S = none → m = 0 ∧ d = 0) (h1 : ∀ u ∈ news, u.oneCell' = true) (hm : n + m ≤ maxLen) (hby : (n + m) * by_ ≤ 140737488355328)
    (h : ∀ A' c' w', Ok s w' b e A' (n + m) c' (xs ++ news) → Below B w0 w' → W.grownBy w' (oB A) → K (a.put o.dst (.slice A' (n + m) c')) w') :
    if Region.wanted o (yielded ops a.tmps) = true then Oper.wp P o a W K Q else EE := by
  obtain ⟨ht, z, hinfo, hzc⟩ := E
  obtain ⟨i, hi, hz, hsz, hbb⟩ := info_parts hinfo
  have hw : Region.wanted o (yielded ops a.tmps) = true := by simp [Region.wanted, hgd]
  rw [if_pos hw]
  rcases S with _ | ad
  · obtain ⟨rfl, rfl⟩ := hS rfl
    have hn : news = [] := List.eq_nil_of_length_eq_zero (by have := hr.len; omega)
    subst hn
    have hrun := run_append_owned_none (P := P) (w := W) b t o.type e i s ht hi (.slice A n c) n xs hown.2
    unfold Oper.wp
    simp [execOp, ho, resolve, invoke, builtin, hs, hx, hrun, Result.andThen]
    have key := h A c W (by simpa using hown) hB ⟨rfl, rfl, rfl, Nat.le_refl _, fun _ _ _ => rfl⟩
    rw [Nat.add_zero] at key
    exact key
  · obtain ⟨v', w', hrun, hown', hg, hnil⟩ := run_append_own (P := P) W b t o.type e i z s by_ ht hi hz hsz hbb hzc hs0 (.slice A n c) n xs hown.2 ad m d news hr.len
      (fun j v hj => by
        have hl : 0 < m := by
          rcases Nat.eq_zero_or_pos m with h0 | h0
          · have := hr.len
            rw [h0, Nat.zero_mul] at this
            have := (List.getElem?_eq_some_iff.1 hj).1
            omega
          · exact h0
        obtain ⟨ad', e', hc⟩ := hr.2 hl
        cases e'
        exact hc j v hj) h1 hm hby hown.1
    rw [oB_own] at hg
    have hsz' := hown.1
    have hB' : Below B w0 w' := hB.grown hg (by omega) (fun k hk => by have := (hown.blk hk).1; omega)
    have hb' : b ≤ w'.heap.size := by have := hg.size; omega
    unfold Oper.wp
    simp [execOp, ho, resolve, invoke, builtin, hs, hx, hrun, Result.andThen]
    rcases hown'.2 with ⟨rfl, h0⟩ | ⟨g, cap, cur, rfl, _⟩
    · have e0 : n + m = 0 := h0
      have := h none 0 w' ⟨hb', by rw [e0] at hown' ⊢; exact hown'⟩ hB' hg
      rw [e0] at this
      exact this
    · exact h _ _ _ ⟨hb', hown'⟩ hB' hg
end
end Go.Proofs.Ytgbojkbhkjameaa

/-
  MORE WORDS ON SLICES: appending to one slice of the call's own beside others ('Gw', 'Dj'): the others stay, and stay apart. Plain theorems; no condition beyond what each states.
-/
import Derived.Test.YthpiemhdieaiaaaDoorBase
namespace Go.Proofs.YthpiemhdieaiaaaDoor
open Go.RowKit
set_option linter.unusedVariables false

/-- the block that a slice begins in. -/
def oB (A : Option Addr) : Option Nat := A.map (·.block)
theorem oB_own (A : Option Addr) (n c : Nat) : (Value.slice A n c).ownBlock = oB A := by cases A <;> rfl
/-- two slices lie in different blocks, or one is nil. -/
def Dj (A A2 : Option Addr) : Prop := ∀ g, oB A = some g → oB A2 ≠ some g
theorem Dj.symm {A A2 : Option Addr} (h : Dj A A2) : Dj A2 A := fun g h1 h2 => h g h2 h1
theorem Dj.none_ (A : Option Addr) : Dj none A := fun g h => by cases h
theorem Dj.none' (A : Option Addr) : Dj A none := (Dj.none_ A).symm
/-- the world behind an append to the slice at A, which lies at A' now. -/
structure Gw (W w' : World) (A A' : Option Addr) : Prop where
  g : W.grownBy w' (oB A)
  at_ : oB A' = oB A ∨ oB A' = some W.heap.size
section
variable {W w' : World} {A A' A2 : Option Addr} {b n c : Nat} {e : TypeId} {xs : List Value}
theorem Ow.blk (h : Ow W b e A n c xs) {g : Nat} (hg : oB A = some g) : b ≤ g ∧ g < W.heap.size := h.lt g (by rw [oB_own]; exact hg)
theorem Gw.size (h : Gw W w' A A') : W.heap.size ≤ w'.heap.size := h.g.size
theorem Gw.ow (h : Gw W w' A A') (ho : Ow W b e A2 n c xs) (hd : Dj A2 A) : Ow w' b e A2 n c xs := by
  refine ⟨Nat.le_trans ho.1 h.size, ho.2.kept h.g ?_⟩
  rw [oB_own]
  rcases hA : oB A2 with _ | g
  · exact .inl rfl
  · exact .inr fun h' => hd g hA h'.symm
theorem Gw.dj (h : Gw W w' A A') (ho : Ow W b e A2 n c xs) (hd : Dj A2 A) : Dj A2 A' := by
  intro g hg hg'
  rcases h.at_ with h' | h'
  · exact hd g hg (by rw [← h']; exact hg')
  · have := (ho.blk hg).2
    rw [h'] at hg'
    cases hg'
    omega
theorem Gw.cell (h : Gw W w' A A') {p : Addr} {v : Value} (hc : W.cell? p = some v) (hd : oB A ≠ some p.block) : w'.cell? p = some v := h.g.cell hc (fun h' => hd h'.symm)
theorem Gw.rd (h : Gw W w' A A') (hr : Rd W A2 n xs) (hd : Dj A2 A) : Rd w' A2 n xs :=
  ⟨hr.1, fun hn => by
    obtain ⟨ad, e, hc⟩ := hr.2 hn
    subst e
    exact ⟨ad, rfl, fun i v hi => h.cell (hc i v hi) (by rw [addr_block]; exact fun h' => hd ad.block rfl h')⟩⟩
theorem Gw.bx (h : Gw W w' A A') {g : Nat} {vs : List Value} (hb : Bx W g vs) (hd : oB A ≠ some g) : Bx w' g vs := hb.grown h.g (fun h' => hd h'.symm)
/-- a slice of a later base lies apart from one below it. -/
theorem Dj.low {b2 n2 c2 : Nat} {e2 : TypeId} {xs2 : List Value} {w2 : World} (h : Ow W b e A n c xs) (h2 : Ow w2 b2 e2 A2 n2 c2 xs2) (hb : W.heap.size ≤ b2) : Dj A A2 := by
  intro g hg hg2
  have := (h.blk hg).2
  have := (h2.blk hg2).1
  omega
end

section
variable {P : Program} {t e : TypeId} {z : Value} {by_ : Nat} {ops : Array Oper} {rest : List Oper} {o : Oper} {a : Act} {Q : Exit → Act → World → Prop}
/-- 'append(out, xs...)', the source read, whatever its address: and all that lies apart stays. -/
theorem apA (E : ElT P t e z by_) {W w0 : World} {b B : Nat} {A : Option Addr} {n c : Nat} {xs : List Value} (hown : Ow W b e A n c xs) (hB : Below B w0 W) (hBb : B ≤ b)
    {S : Option Addr} {m d : Nat} {news : List Value} (hr : Rd W S m news)
    (s x : Operand) (hgd : o.guard = none) (ho : o.op = .call { callee := .builtin .append, args := #[s, x], argTypes := #[t, t] })
    (hs : a.eval s = .slice A n c) (hx : a.eval x = .slice S m d) (hS : S = none → m = 0 ∧ d = 0) (h1 : ∀ u ∈ news, u.oneCell' = true) (hm : n + m ≤ maxLen) (hby : (n + m) * by_ ≤ 140737488355328)
    (h : ∀ A' c' w', Ow w' b e A' (n + m) c' (xs ++ news) → Below B w0 w' → Gw W w' A A' → wpList P ops Q rest (a.put o.dst (.slice A' (n + m) c')) w') :
    wpList P ops Q (o :: rest) a W := by
  obtain ⟨i, hi, hz, hsz, hbb⟩ := info_parts E.2.1
  rcases S with _ | ad
  · obtain ⟨rfl, rfl⟩ := hS rfl
    have hn : news = [] := List.eq_nil_of_length_eq_zero (by have := hr.len; omega)
    subst hn
    refine wpList_append_own_none hgd s x t ho b e i 1 E.1 hi (.slice A n c) n xs hs hown.2 hx ?_
    have := h A c W (by simpa using hown) hB ⟨⟨rfl, rfl, rfl, Nat.le_refl _, fun _ _ _ => rfl⟩, .inl rfl⟩
    simpa using this
  · refine wpList_append_own_at (w := W) hgd s x t ho b e i z 1 by_ E.1 hi hz hsz hbb (by rw [E.2.2]; rfl) (by omega) (.slice A n c) n xs hs hown.2 ad m d news hx (by have := hr.len; omega) ?_ h1 hm hby hown.1 ?_
    · intro j v hj
      have hl : j < m := by
        have := hr.len
        have := (List.getElem?_eq_some_iff.1 hj).1
        omega
      obtain ⟨ad', e', hc⟩ := hr.2 (by omega)
      cases e'
      exact hc j v hj
    · intro v' w' hown' hg hnil hat
      rw [oB_own] at hg hat
      have hsz := hown.1
      have hB' : Below B w0 w' := hB.grown hg (by omega) (fun k hk => by have := (hown.blk hk).1; omega)
      have hb' : b ≤ w'.heap.size := by have := hg.size; omega
      rcases hown'.2 with ⟨rfl, h0⟩ | ⟨g, cap, cur, rfl, _⟩
      · have e0 : n + m = 0 := h0
        have := h none 0 w' ⟨hb', by rw [e0] at hown' ⊢; exact hown'⟩ hB' ⟨hg, hat⟩
        rw [e0] at this
        exact this
      · exact h _ _ _ ⟨hb', hown'⟩ hB' ⟨hg, hat⟩
/-- the same as one step of a region that draws ('go_region_law'). -/
theorem step_apA (E : ElT P t e z by_) {EE : Prop} {K : Act → World → Prop} {W w0 : World} {b B : Nat} {A : Option Addr} {n c : Nat} {xs : List Value} (hown : Ow W b e A n c xs) (hB : Below B w0 W) (hBb : B ≤ b)
    {S : Option Addr} {m d : Nat} {news : List Value} (hr : Rd W S m news)
    (s x : Operand) (hgd : o.guard = none) (ho : o.op = .call { callee := .builtin .append, args := #[s, x], argTypes := #[t, t] })
    (hs : a.eval s = .slice A n c) (hx : a.eval x = .slice S m d) (hS : S = none → m = 0 ∧ d = 0) (h1 : ∀ u ∈ news, u.oneCell' = true) (hm : n + m ≤ maxLen) (hby : (n + m) * by_ ≤ 140737488355328)
    (h : ∀ A' c' w', Ow w' b e A' (n + m) c' (xs ++ news) → Below B w0 w' → W.grownBy w' (oB A) → K (a.put o.dst (.slice A' (n + m) c')) w') :
    if Region.wanted o (yielded ops a.tmps) = true then Oper.wp P o a W K Q else EE := by
  obtain ⟨i, hi, hz, hsz, hbb⟩ := info_parts E.2.1
  have hw : Region.wanted o (yielded ops a.tmps) = true := by simp [Region.wanted, hgd]
  rw [if_pos hw]
  rcases S with _ | ad
  · obtain ⟨rfl, rfl⟩ := hS rfl
    have hn : news = [] := List.eq_nil_of_length_eq_zero (by have := hr.len; omega)
    subst hn
    have hrun := run_append_owned_none (P := P) (w := W) b t o.type e i 1 E.1 hi (.slice A n c) n xs hown.2
    unfold Oper.wp
    simp [execOp, ho, resolve, invoke, builtin, hs, hx, hrun, Result.andThen]
    have key := h A c W (by simpa using hown) hB ⟨rfl, rfl, rfl, Nat.le_refl _, fun _ _ _ => rfl⟩
    rw [Nat.add_zero] at key
    exact key
  · obtain ⟨v', w', hrun, hown', hg, hnil⟩ := run_append_own (P := P) W b t o.type e i z 1 by_ E.1 hi hz hsz hbb (by rw [E.2.2]; rfl) (by omega) (.slice A n c) n xs hown.2 ad m d news (by have := hr.len; omega)
      (fun j v hj => by
        have hl : j < m := by
          have := hr.len
          have := (List.getElem?_eq_some_iff.1 hj).1
          omega
        obtain ⟨ad', e', hc⟩ := hr.2 (by omega)
        cases e'
        exact hc j v hj) h1 hm hby hown.1
    rw [oB_own] at hg
    have hsz' := hown.1
    have hB' : Below B w0 w' := hB.grown hg (by omega) (fun k hk => by have := (hown.blk hk).1; omega)
    have hb' : b ≤ w'.heap.size := by have := hg.size; omega
    unfold Oper.wp
    simp [execOp, ho, resolve, invoke, builtin, hs, hx, hrun, Result.andThen]
    rcases hown'.2 with ⟨rfl, h0⟩ | ⟨g, cap, cur, rfl, _⟩
    · have e0 : n + m = 0 := h0
      have := h none 0 w' ⟨hb', by rw [e0] at hown' ⊢; exact hown'⟩ hB' hg
      rw [e0] at this
      exact this
    · exact h _ _ _ ⟨hb', hown'⟩ hB' hg
/-- the same at the operation itself, whatever its guard. -/
theorem wp_apA (E : ElT P t e z by_) {K : Act → World → Prop} {W w0 : World} {b B : Nat} {A : Option Addr} {n c : Nat} {xs : List Value} (hown : Ow W b e A n c xs) (hB : Below B w0 W) (hBb : B ≤ b)
    {S : Option Addr} {m d : Nat} {news : List Value} (hr : Rd W S m news)
    (s x : Operand) (ho : o.op = .call { callee := .builtin .append, args := #[s, x], argTypes := #[t, t] })
    (hs : a.eval s = .slice A n c) (hx : a.eval x = .slice S m d) (hS : S = none → m = 0 ∧ d = 0) (h1 : ∀ u ∈ news, u.oneCell' = true) (hm : n + m ≤ maxLen) (hby : (n + m) * by_ ≤ 140737488355328)
    (h : ∀ A' c' w', Ow w' b e A' (n + m) c' (xs ++ news) → Below B w0 w' → W.grownBy w' (oB A) → K (a.put o.dst (.slice A' (n + m) c')) w') :
    Oper.wp P o a W K Q := by
  obtain ⟨i, hi, hz, hsz, hbb⟩ := info_parts E.2.1
  rcases S with _ | ad
  · obtain ⟨rfl, rfl⟩ := hS rfl
    have hn : news = [] := List.eq_nil_of_length_eq_zero (by have := hr.len; omega)
    subst hn
    have hrun := run_append_owned_none (P := P) (w := W) b t o.type e i 1 E.1 hi (.slice A n c) n xs hown.2
    unfold Oper.wp
    simp [execOp, ho, resolve, invoke, builtin, hs, hx, hrun, Result.andThen]
    have key := h A c W (by simpa using hown) hB ⟨rfl, rfl, rfl, Nat.le_refl _, fun _ _ _ => rfl⟩
    rw [Nat.add_zero] at key
    exact key
  · obtain ⟨v', w', hrun, hown', hg, hnil⟩ := run_append_own (P := P) W b t o.type e i z 1 by_ E.1 hi hz hsz hbb (by rw [E.2.2]; rfl) (by omega) (.slice A n c) n xs hown.2 ad m d news (by have := hr.len; omega)
      (fun j v hj => by
        have hl : j < m := by
          have := hr.len
          have := (List.getElem?_eq_some_iff.1 hj).1
          omega
        obtain ⟨ad', e', hc⟩ := hr.2 (by omega)
        cases e'
        exact hc j v hj) h1 hm hby hown.1
    rw [oB_own] at hg
    have hsz' := hown.1
    have hB' : Below B w0 w' := hB.grown hg (by omega) (fun k hk => by have := (hown.blk hk).1; omega)
    have hb' : b ≤ w'.heap.size := by have := hg.size; omega
    unfold Oper.wp
    simp [execOp, ho, resolve, invoke, builtin, hs, hx, hrun, Result.andThen]
    rcases hown'.2 with ⟨rfl, h0⟩ | ⟨g, cap, cur, rfl, _⟩
    · have e0 : n + m = 0 := h0
      have := h none 0 w' ⟨hb', by rw [e0] at hown' ⊢; exact hown'⟩ hB' hg
      rw [e0] at this
      exact this
    · exact h _ _ _ ⟨hb', hown'⟩ hB' hg
/-- 'append(out, x)' of one element, which has just been laid in a block of its own. -/
theorem ap1A (E : ElT P t e z by_) {W w0 : World} {b B : Nat} {A : Option Addr} {n c : Nat} {xs : List Value} (hown : Ow W b e A n c xs) (hB : Below B w0 W) (hBb : B ≤ b)
    (s x : Operand) (u : Value) (hgd : o.guard = none) (ho : o.op = .call { callee := .builtin .append, args := #[s, x], argTypes := #[t, t] })
    (hs : a.eval s = .slice A n c) (hx : a.eval x = .slice (some ⟨W.heap.size, 0, none⟩) 1 1) (h1 : u.oneCell' = true) (hm : n + 1 ≤ maxLen) (hby : (n + 1) * by_ ≤ 140737488355328)
    (h : ∀ A' c' w', Ow w' b e A' (n + 1) c' (xs ++ [u]) → Below B w0 w' → Gw (W.alloc (.cells #[u] e)) w' A A' → wpList P ops Q rest (a.put o.dst (.slice A' (n + 1) c')) w') :
    wpList P ops Q (o :: rest) a (W.alloc (.cells #[u] e)) := by
  refine apA E (hown.alloc (.cells #[u] e)) (hB.alloc (by have := hown.1; omega) _) hBb (S := some ⟨W.heap.size, 0, none⟩) (m := 1) (d := 1) (news := [u]) ?_ s x hgd ho hs hx (fun h => by cases h) (by simpa using h1) hm hby h
  refine ⟨rfl, fun _ => ⟨_, rfl, fun i v hi => ?_⟩⟩
  match i, hi with
  | 0, hi =>
    simp at hi
    subst hi
    simp [Addr.add]
/-- 'append(out, x)' of one element, behind a guard that holds. -/
theorem ap1G (E : ElT P t e z by_) {W w0 : World} {b B : Nat} {A : Option Addr} {n c : Nat} {xs : List Value} (hown : Ow W b e A n c xs) (hB : Below B w0 W) (hBb : B ≤ b)
    (s x : Operand) (u : Value) (hw : Region.wanted o (yielded ops a.tmps) = true) (ho : o.op = .call { callee := .builtin .append, args := #[s, x], argTypes := #[t, t] })
    (hs : a.eval s = .slice A n c) (hx : a.eval x = .slice (some ⟨W.heap.size, 0, none⟩) 1 1) (h1 : u.oneCell' = true) (hm : n + 1 ≤ maxLen) (hby : (n + 1) * by_ ≤ 140737488355328)
    (h : ∀ A' c' w', Ow w' b e A' (n + 1) c' (xs ++ [u]) → Below B w0 w' → wpList P ops Q rest (a.put o.dst (.slice A' (n + 1) c')) w') :
    wpList P ops Q (o :: rest) a (W.alloc (.cells #[u] e)) := wpList_step fun K hK => by
  rw [if_pos hw]
  refine wp_apA E (hown.alloc (.cells #[u] e)) (hB.alloc (by have := hown.1; omega) _) hBb (S := some ⟨W.heap.size, 0, none⟩) (m := 1) (d := 1) (news := [u]) ?_ s x ho hs hx (fun h => by cases h) (by simpa using h1) hm hby (fun A' c' w' h2 h3 _ => hK _ _ (h A' c' w' h2 h3))
  refine ⟨rfl, fun _ => ⟨_, rfl, fun i v hi => ?_⟩⟩
  match i, hi with
  | 0, hi =>
    simp at hi
    subst hi
    simp [Addr.add]
/-- 'append([]T{}, xs...)': the empty literal has just been laid. -/
theorem ap0 (E : ElT P t e z by_) {W : World} {S : Option Addr} {m d : Nat} {news : List Value} (hr : Rd W S m news)
    (s x : Operand) (hgd : o.guard = none) (ho : o.op = .call { callee := .builtin .append, args := #[s, x], argTypes := #[t, t] })
    (hs : a.eval s = .slice (some ⟨W.heap.size, 0, none⟩) 0 0) (hx : a.eval x = .slice S m d) (hS : S = none → m = 0 ∧ d = 0) (h1 : ∀ u ∈ news, u.oneCell' = true) (hm : m ≤ maxLen) (hby : m * by_ ≤ 140737488355328)
    (h : ∀ A' c' w', Ow w' W.heap.size e A' m c' news → Below W.heap.size W w' → wpList P ops Q rest (a.put o.dst (.slice A' m c')) w') :
    wpList P ops Q (o :: rest) a (W.alloc (.cells #[] e)) := by
  refine apA E (b := W.heap.size) (B := W.heap.size) (Ow.lit W e [] (by simp)) (bl_new W _) (Nat.le_refl _) (hr.alloc _) s x hgd ho hs hx hS h1 (by simpa using hm) (by simpa using hby) ?_
  intro A' c' w' h2 h3 _
  have := h A' c' w' (by simpa using h2) h3
  simpa using this
end
end Go.Proofs.YthpiemhdieaiaaaDoor

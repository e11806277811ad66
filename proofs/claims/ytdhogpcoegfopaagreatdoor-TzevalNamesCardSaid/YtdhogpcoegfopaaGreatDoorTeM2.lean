/-
  PLAIN MATHEMATICS: the latest change among those looked at; how instants compare; changes in a window of years. No program.
-/
import Derived.Test.YtdhogpcoegfopaaGreatDoorTeMath
namespace Go.Proofs.YtdhogpcoegfopaaGreatDoor
open Go.RowKit
set_option linter.unusedVariables false
/-- the latest of the changes looked at (A: to daylight saving time, B: to standard time) that is not after t. -/
def Lst (A B : Int → Prop) (t : Int) (fd on : Bool) (L : Int) : Prop :=
  (fd = false ∧ on = false ∧ ∀ c, A c ∨ B c → t < c) ∨ (fd = true ∧ L ≤ t ∧ (∀ c, A c ∨ B c → c ≤ t → c ≤ L) ∧ (A L ∨ B L) ∧ (on = true ↔ A L))
section
variable {A B : Int → Prop} {t L b : Int} {fd on : Bool}
theorem Lst.start (t L : Int) : Lst (fun _ => False) (fun _ => False) t false false L := .inl ⟨rfl, rfl, fun _ h => by simp at h⟩
theorem Lst.congr {A' B' : Int → Prop} (h : Lst A B t fd on L) (ha : ∀ c, A' c ↔ A c) (hb : ∀ c, B' c ↔ B c) : Lst A' B' t fd on L := by
  have e1 : A' = A := by funext c; exact propext (ha c)
  have e2 : B' = B := by funext c; exact propext (hb c)
  rw [e1, e2]; exact h
theorem Lst.skipB (h : Lst A B t fd on L) (hb : t < b) : Lst A (fun c => B c ∨ c = b) t fd on L := by
  rcases h with ⟨h1, h2, h3⟩ | ⟨h1, h2, h3, h4, h5⟩
  · refine .inl ⟨h1, h2, fun c hc => ?_⟩
    rcases hc with hc | hc | rfl
    · exact h3 c (.inl hc)
    · exact h3 c (.inr hc)
    · exact hb
  · refine .inr ⟨h1, h2, fun c hc hct => ?_, h4.imp id .inl, h5⟩
    rcases hc with hc | hc | rfl
    · exact h3 c (.inl hc) hct
    · exact h3 c (.inr hc) hct
    · omega
theorem Lst.takeB (h : Lst A B t fd on L) (hb : b ≤ t) (hl : fd = false ∨ L < b) : Lst A (fun c => B c ∨ c = b) t true false b := by
  have hn : ∀ c, A c ∨ B c → c ≤ t → c < b := by
    intro c hc hct
    rcases h with ⟨_, _, h3⟩ | ⟨h1, h2, h3, h4, h5⟩
    · have := h3 c hc; omega
    · rcases hl with hl | hl
      · rw [hl] at h1; cases h1
      · have := h3 c hc hct; omega
  refine .inr ⟨rfl, hb, fun c hc hct => ?_, .inr (.inr rfl), by simp only [Bool.false_eq_true, false_iff]; intro ha; have := hn b (.inl ha) hb; omega⟩
  rcases hc with hc | hc | rfl
  · have := hn c (.inl hc) hct; omega
  · have := hn c (.inr hc) hct; omega
  · exact Int.le_refl _
theorem Lst.keepB (h : Lst A B t fd on L) (hf : fd = true) (hb : b ≤ L) : Lst A (fun c => B c ∨ c = b) t fd on L := by
  rcases h with ⟨h1, _, _⟩ | ⟨h1, h2, h3, h4, h5⟩
  · rw [h1] at hf; cases hf
  · refine .inr ⟨h1, h2, fun c hc hct => ?_, h4.imp id .inl, h5⟩
    rcases hc with hc | hc | rfl
    · exact h3 c (.inl hc) hct
    · exact h3 c (.inr hc) hct
    · exact hb
theorem Lst.skipA (h : Lst A B t fd on L) (hb : t < b) : Lst (fun c => A c ∨ c = b) B t fd on L := by
  rcases h with ⟨h1, h2, h3⟩ | ⟨h1, h2, h3, h4, h5⟩
  · refine .inl ⟨h1, h2, fun c hc => ?_⟩
    rcases hc with (hc | rfl) | hc
    · exact h3 c (.inl hc)
    · exact hb
    · exact h3 c (.inr hc)
  · refine .inr ⟨h1, h2, fun c hc hct => ?_, h4.imp .inl id, h5.trans ⟨.inl, fun hh => ?_⟩⟩
    · rcases hc with (hc | rfl) | hc
      · exact h3 c (.inl hc) hct
      · omega
      · exact h3 c (.inr hc) hct
    · rcases hh with hh | hh
      · exact hh
      · omega
theorem Lst.takeA (h : Lst A B t fd on L) (hb : b ≤ t) (hl : fd = false ∨ L ≤ b) : Lst (fun c => A c ∨ c = b) B t true true b := by
  have hn : ∀ c, A c ∨ B c → c ≤ t → c ≤ b := by
    intro c hc hct
    rcases h with ⟨_, _, h3⟩ | ⟨h1, h2, h3, h4, h5⟩
    · have := h3 c hc; omega
    · rcases hl with hl | hl
      · rw [hl] at h1; cases h1
      · have := h3 c hc hct; omega
  refine .inr ⟨rfl, hb, fun c hc hct => ?_, .inl (.inr rfl), by simp⟩
  rcases hc with (hc | rfl) | hc
  · exact hn c (.inl hc) hct
  · exact Int.le_refl _
  · exact hn c (.inr hc) hct
theorem Lst.keepA (h : Lst A B t fd on L) (hf : fd = true) (hb : b < L) : Lst (fun c => A c ∨ c = b) B t fd on L := by
  rcases h with ⟨h1, _, _⟩ | ⟨h1, h2, h3, h4, h5⟩
  · rw [h1] at hf; cases hf
  · refine .inr ⟨h1, h2, fun c hc hct => ?_, h4.imp .inl id, h5.trans ⟨.inl, fun hh => ?_⟩⟩
    · rcases hc with (hc | rfl) | hc
      · exact h3 c (.inl hc) hct
      · omega
      · exact h3 c (.inr hc) hct
    · rcases hh with hh | hh
      · exact hh
      · omega
end
/-- the changes of the years from lo on, below y. -/
def chs (d : RD) (o lo y c : Int) : Prop := ∃ z, lo ≤ z ∧ z < y ∧ c = chI d o z
theorem chs_succ {d : RD} {o lo y : Int} (h : lo ≤ y) (c : Int) : chs d o lo (y + 1) c ↔ chs d o lo y c ∨ c = chI d o y := by
  constructor
  · rintro ⟨z, h1, h2, h3⟩
    by_cases hz : z = y
    · subst hz; exact .inr h3
    · exact .inl ⟨z, h1, by omega, h3⟩
  · rintro (⟨z, h1, h2, h3⟩ | rfl)
    · exact ⟨z, h1, by omega, h3⟩
    · exact ⟨y, h, by omega, rfl⟩
theorem chs_zero {d : RD} {o lo : Int} (c : Int) : chs d o lo lo c ↔ False := ⟨fun ⟨z, h1, h2, _⟩ => by omega, fun h => h.elim⟩
/-- the state out of the years around. -/
theorem Lst.on {st en : RD} (hs : rdOk st) (he : rdOk en) {so dof t Y L : Int} {fd on : Bool} (so0 : -89999 ≤ so ∧ so ≤ 89999) (do0 : -89999 ≤ dof ∧ dof ≤ 89999) (t0 : ystart Y * 86400 ≤ t) (t1 : t < ystart (Y + 1) * 86400)
    (h : Lst (chs st so (Y - 3) (Y + 3)) (chs en dof (Y - 3) (Y + 3)) t fd on L) : on = true ↔ onS st en so dof t := by
  obtain ⟨ya, a1, a2⟩ := chI_ex hs so t
  obtain ⟨yb, b1, b2⟩ := chI_ex he dof t
  have wa := chI_win hs so0 t0 t1 a1 a2
  have wb := chI_win he do0 t0 t1 b1 b2
  rw [onS_iff hs he a1 a2 b1 b2]
  have ma : chs st so (Y - 3) (Y + 3) (chI st so ya) := ⟨ya, by omega, by omega, rfl⟩
  have mb : chs en dof (Y - 3) (Y + 3) (chI en dof yb) := ⟨yb, by omega, by omega, rfl⟩
  rcases h with ⟨_, _, h3⟩ | ⟨_, h2, h3, h4, h5⟩
  · have := h3 _ (.inl ma); omega
  · rw [h5]
    have ga := h3 _ (.inl ma) a1
    have gb := h3 _ (.inr mb) b1
    constructor
    · rintro ⟨z, z1, z2, rfl⟩
      have := (chI_le hs so).2 (chI_uniq hs so a1 a2 h2)
      omega
    · intro hle
      rcases h4 with h4 | ⟨z, z1, z2, rfl⟩
      · exact h4
      · have := (chI_le he dof).2 (chI_uniq he dof b1 b2 h2)
        have e : chI en dof z = chI st so ya := by omega
        rw [e]; exact ma
end Go.Proofs.YtdhogpcoegfopaaGreatDoor

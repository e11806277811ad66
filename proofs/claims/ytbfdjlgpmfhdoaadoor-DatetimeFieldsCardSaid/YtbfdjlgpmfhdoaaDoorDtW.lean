/-
  WORDS ON date-times for the laws of layer 5: what Unix answers, program and reference alike.
-/
import Derived.Test.YtbfdjlgpmfhdoaaDoorLaw5
namespace Go.Proofs.YtbfdjlgpmfhdoaaDoor
open Go.ChangeShapes Go.WideShapes Go.ChangeAt Go.RowKit
set_option linter.unusedVariables false
/-- what Unix answers. -/
def UnixIs (Y M D h m s W v : Int) (ok : Bool) : Prop :=
  (DtOk Y M D h m s W ∧ days Y M D * 86400 + (h * 3600 + m * 60 + s) = v ∧ -9223372036854775808 ≤ v ∧ v < 9223372036854775808 ∧ ok = true) ∨
  (DtOk Y M D h m s W ∧ (days Y M D * 86400 + (h * 3600 + m * 60 + s) < -9223372036854775808 ∨ 9223372036854775808 ≤ days Y M D * 86400 + (h * 3600 + m * 60 + s)) ∧ v = 0 ∧ ok = false) ∨ (¬ DtOk Y M D h m s W ∧ v = 0 ∧ ok = false)
theorem UnixIs.ex (Y M D h m s W : Int) : ∃ v ok, UnixIs Y M D h m s W v ok := by
  by_cases hv : DtOk Y M D h m s W
  · by_cases hr : -9223372036854775808 ≤ days Y M D * 86400 + (h * 3600 + m * 60 + s) ∧ days Y M D * 86400 + (h * 3600 + m * 60 + s) < 9223372036854775808
    · exact ⟨_, true, .inl ⟨hv, rfl, hr.1, hr.2, rfl⟩⟩
    · exact ⟨0, false, .inr (.inl ⟨hv, by omega, rfl, rfl⟩)⟩
  · exact ⟨0, false, .inr (.inr ⟨hv, rfl, rfl⟩)⟩
theorem r5_.Unix {Y M D h m s W v : Int} {ok : Bool} (w : World) (hu : UnixIs Y M D h m s W v ok) : Calls Tryd.prog 12 #[vdt Y M D h m s W] w fun e w' => e = .returned (.tuple #[.int .i64 v, .bool ok]) ∧ Below w.heap.size w w' := by
  rcases hu with ⟨h1, h2, h3, h4, rfl⟩ | ⟨h1, h2, rfl, rfl⟩ | ⟨h1, rfl, rfl⟩
  · exact r5_.Unix_yes _ _ _ _ _ _ _ _ h1 _ h2 h3 h4
  · exact r5_.Unix_far _ _ _ _ _ _ _ _ h1 _ rfl h2
  · exact r5_.Unix_bad _ _ _ _ _ _ _ _ h1
theorem dt_.Unix {Y M D h m s W v : Int} {ok : Bool} (w : World) (hT : Tb w) (hu : UnixIs Y M D h m s W v ok) : Calls Tryd.prog 11 #[vdt Y M D h m s W] w fun e w' => e = .returned (.tuple #[.int .i64 v, .bool ok]) ∧ Below w.heap.size w w' := by
  rcases hu with ⟨h1, h2, h3, h4, rfl⟩ | ⟨h1, h2, rfl, rfl⟩ | ⟨h1, rfl, rfl⟩
  · exact dt_.Unix_yes _ _ _ _ _ _ _ _ hT h1 _ h2 h3 h4
  · exact dt_.Unix_far _ _ _ _ _ _ _ _ hT h1 _ rfl h2
  · exact dt_.Unix_bad _ _ _ _ _ _ _ _ hT h1
/-- a 64-bit day's date lies in the domain. -/
theorem day64 {t Y M D : Int} (h0 : -9223372036854775808 ≤ t) (h1 : t < 9223372036854775808) (hd : IsDate (t / 86400) Y M D) : Vd Y M D := by
  refine hd.dom ?_ ?_
  · unfold loDay ystart
    omega
  · unfold hiDay ystart
    omega
/-- the fields of a timestamp's time of day. -/
def Tod (t f3 f4 f5 f6 : Int) : Prop := t % 86400 / 3600 = f3 ∧ t % 86400 % 3600 / 60 = f4 ∧ t % 86400 % 60 = f5 ∧ (t / 86400 + 4) % 7 = f6
theorem Tod.ex (t : Int) : ∃ f3 f4 f5 f6, Tod t f3 f4 f5 f6 := ⟨_, _, _, _, rfl, rfl, rfl, rfl⟩
theorem Tod.bd {t f3 f4 f5 f6 : Int} (h : Tod t f3 f4 f5 f6) : 0 ≤ f3 ∧ f3 ≤ 23 ∧ 0 ≤ f4 ∧ f4 ≤ 59 ∧ 0 ≤ f5 ∧ f5 ≤ 59 ∧ 0 ≤ f6 ∧ f6 ≤ 6 ∧ f3 * 3600 + f4 * 60 + f5 = t % 86400 := by
  obtain ⟨rfl, rfl, rfl, rfl⟩ := h
  omega
theorem dt_.Of_is {t Y M D f3 f4 f5 f6 : Int} (w : World) (hT : Tb w) (h0 : -9223372036854775808 ≤ t) (h1 : t < 9223372036854775808) (hd : IsDate (t / 86400) Y M D) (ht : Tod t f3 f4 f5 f6) :
    Calls Tryd.prog 13 #[.int .i64 t] w fun e w' => e = .returned (.agg #[.int .i64 Y, .int .i64 M, .int .i64 D, .int .i64 f3, .int .i64 f4, .int .i64 f5, .int .i64 f6]) ∧ Below w.heap.size w w' := by
  obtain ⟨rfl, rfl, rfl, rfl⟩ := ht
  exact dt_.Of t Y M D w hT h0 h1 hd
theorem r5_.Of_is {t Y M D f3 f4 f5 f6 : Int} (w : World) (h0 : -9223372036854775808 ≤ t) (h1 : t < 9223372036854775808) (hd : IsDate (t / 86400) Y M D) (ht : Tod t f3 f4 f5 f6) :
    Calls Tryd.prog 14 #[.int .i64 t] w fun e w' => e = .returned (.agg #[.int .i64 Y, .int .i64 M, .int .i64 D, .int .i64 f3, .int .i64 f4, .int .i64 f5, .int .i64 f6]) ∧ Below w.heap.size w w' := by
  obtain ⟨rfl, rfl, rfl, rfl⟩ := ht
  exact r5_.Of t Y M D w h0 h1 hd
/-- the date-time of a timestamp is valid, and Unix answers the timestamp. -/
theorem unix_of {t Y M D f3 f4 f5 f6 : Int} (h0 : -9223372036854775808 ≤ t) (h1 : t < 9223372036854775808) (hd : IsDate (t / 86400) Y M D) (ht : Tod t f3 f4 f5 f6) : UnixIs Y M D f3 f4 f5 f6 t true := by
  have hb := ht.bd
  refine .inl ⟨⟨day64 h0 h1 hd, hb.1, hb.2.1, hb.2.2.1, hb.2.2.2.1, hb.2.2.2.2.1, hb.2.2.2.2.2.1, by rw [hd.2]; exact ht.2.2.2.symm⟩, ?_, h0, h1, rfl⟩
  rw [hd.2]
  omega
/-- the date-time that Unix took is the timestamp's. -/
theorem of_unix {Y M D h m s W v : Int} (hu : UnixIs Y M D h m s W v true) : -9223372036854775808 ≤ v ∧ v < 9223372036854775808 ∧ DtOk Y M D h m s W ∧ IsDate (v / 86400) Y M D ∧ Tod v h m s W := by
  rcases hu with ⟨h1, h2, h3, h4, _⟩ | ⟨_, _, _, h⟩ | ⟨_, _, h⟩
  · obtain ⟨hv, a0, a1, b0, b1, c0, c1, hw⟩ := h1
    have e1 : v / 86400 = days Y M D := by omega
    refine ⟨h3, h4, ⟨hv, a0, a1, b0, b1, c0, c1, hw⟩, ⟨hv.2.2, e1.symm⟩, ?_, ?_, ?_, ?_⟩
    · omega
    · omega
    · omega
    · rw [e1]; exact hw.symm
  · cases h
  · cases h
end Go.Proofs.YtbfdjlgpmfhdoaaDoor

/-
  Texts of mine in one file: VdA. Their conditions stand in the theorems.
-/
import Derived.Test.YtbehflfpdkedgaaGreatDoorQ07
import Derived.Test.YtbehflfpdkedgaaGreatDoorQ11
import Derived.Test.YtbehflfpdkedgaaGreatDoorQ12
import Derived.Test.YtbehflfpdkedgaaGreatDoorQ13
import Derived.Laws.EntriesVeiled
import Derived.Deep.RegionHeld3
import Derived.Deep.DeepCutAuto
namespace Go.Proofs.YtbehflfpdkedgaaGreatDoor
set_option linter.unusedVariables false
set_option linter.unusedSimpArgs false
set_option maxRecDepth 100000
set_option maxHeartbeats 16000000
open Go.ChangeShapes Go.WideShapes Go.ChangeAt Go.RowKit
def fnz : List Int → Int
 | [] => 0
 | x :: l => if x = 0 then fnz l else x
theorem fnz_at : ∀ {l : List Int} {k : Nat} {x : Int}, (∀ j, j < k → l[j]? = some 0) → l[k]? = some x → x ≠ 0 → fnz l = x
 | [], k, x, _, h, _ => by simp at h
 | y :: l, 0, x, _, h, hx => by simp at h; subst h; simp [fnz, hx]
 | y :: l, k + 1, x, ha, h, hx => by
   have h0 := ha 0 (by omega)
   simp at h0
   subst h0
   simp only [fnz, if_true]
   exact fnz_at (k := k) (fun j hj => by have := ha (j + 1) (by omega); simpa using this) (by simpa using h) hx
theorem fnz_all : ∀ {l : List Int}, (∀ j, j < l.length → l[j]? = some 0) → fnz l = 0
 | [], _ => rfl
 | y :: l, ha => by
   have h0 := ha 0 (by simp)
   simp at h0
   subst h0
   simp only [fnz, if_true]
   exact fnz_all (fun j hj => by have := ha (j + 1) (by simp; omega); simpa using this)
theorem rd_ro {w : World} {g : Nat} {cs : List Value} {T : TypeId} (h : Ro w g cs.toArray T) : Rd w (some ⟨g, 0, none⟩) cs.length cs :=
 ⟨rfl, fun _ => ⟨_, rfl, fun i v hi => by rw [addr_flat, Nat.zero_add, h.cell]; simpa using hi⟩⟩
def rq (b : Bool) (e : Int) : Int := if b then 0 else e
theorem vB_fnz (b : Bk) (four : Bool) (k : Nat) : vB b four k = fnz [rq (cntOk b) 6, rq (fT k b.ti && lfit k b.lp) 18, rq (decide (desc b.ti < 0)) 7, rq (ixOk b.ty.length b.ix) 8, chk b.ty b.ch.length, rq (decide (badL b.ch = -1)) 11, rq (vL b.lp four) 12, rq (cn b.sd b.ut) 13] := by
 have hd : (desc b.ti < 0) ↔ desc b.ti = -1 := by
  rcases desc_spec b.ti with ⟨h, _⟩ | ⟨j, h, _⟩ <;> omega
 unfold vB
 rw [show decide (desc b.ti < 0) = decide (desc b.ti = -1) from by rw [decide_eq_decide]; exact hd]
 simp only [fnz, rq]
 cases cntOk b <;> cases fT k b.ti <;> cases lfit k b.lp <;> cases ixOk b.ty.length b.ix <;> cases vL b.lp four <;> cases cn b.sd b.ut <;> by_cases h1 : desc b.ti = -1 <;> by_cases h2 : chk b.ty b.ch.length = 0 <;> by_cases h3 : badL b.ch = -1 <;> simp [h1, h2, h3]
namespace vd_
theorem require (h : Bool) (e : Int) (w : World) : Calls Tryz.prog 32 #[.bool h, .int .i64 e] w fun r w' => r = .returned (.int .i64 (rq h e)) ∧ Below w.heap.size w w' := by
 have hb := hide (bl_refl w)
 cases h
 all_goals
  go_enter Tryz.func32, Tryz.ntmps32
  go_wp2
  go_ret
  exact ⟨rfl, hb.out⟩
theorem isCountOrNone (n m : Nat) (w : World) : Calls Tryz.prog 96 #[.int .i64 n, .int .i64 m] w fun r w' => r = .returned (.bool (decide (n = 0) || decide (n = m))) ∧ Below w.heap.size w w' := by
 have hb := hide (bl_refl w)
 by_cases a : n = 0
 ·subst a
  go_enter Tryz.func96, Tryz.ntmps96
  go_wp2
  go_ret
  exact ⟨rfl, hb.out⟩
 ·have fa : ((n : Int) == 0) = false := by simp; omega
  have fa' : decide ((n : Int) = 0) = false := by simp; omega
  have ga : decide (n = 0) = false := by simp; omega
  by_cases b : n = m
  ·subst b
   go_enter Tryz.func96, Tryz.ntmps96
   go_wp2
   go_ret
   exact ⟨retb (by simp), hb.out⟩
  ·have fb : ((n : Int) == (m : Int)) = false := by simp; omega
   have fb' : decide ((n : Int) = (m : Int)) = false := by simp; omega
   have gb : decide (n = m) = false := by simp; omega
   replace a := hide a
   replace b := hide b
   go_enter Tryz.func96, Tryz.ntmps96
   go_wp2
   go_ret
   exact ⟨retb (by simp [ga, gb]), hb.out⟩
theorem or_ (l : List Int) (n : Nat) (B : Nat) (w : World) (h : Rd w (some ⟨B, 0, none⟩) n (l.map (Value.int .i64))) (hn : n ≤ 1000) :
 Calls Tryz.prog 31 #[.slice (some ⟨B, 0, none⟩) n n] w fun e w' => e = .returned (.int .i64 (fnz l)) ∧ Below w.heap.size w w' := by
 have hl : l.length = n := by have := h.len; simpa using this
 have hb := hide (bl_refl w)
 obtain ⟨r, hr⟩ : ∃ r, r = fnz l := ⟨_, rfl⟩
 rw [← hr]
 replace hr := hide hr
 replace hl := hide hl
 go_enter Tryz.func31, Tryz.ntmps31
 go_wp2_with fail
 go_loop [8] (fun i => ∃ k : Nat, k ≤ n ∧ i = .int .i64 (k : Nat) ∧ Hid (∀ j, j < k → l[j]? = some 0)) (fun i => n - (intOf i).toNat)
 case atStart => exact ⟨0, by omega, rfl, hide (fun j h => by omega)⟩
 case round =>
  obtain ⟨k, hk, rfl, ha⟩ := hrel
  by_cases hlt : k < n
  ·obtain ⟨ad, e1, hc⟩ := h.int hlt
   cases e1
   have hx : l[k]? = some (l[k]?.getD 0) := by rw [List.getElem?_eq_getElem (by rw [hl.out]; exact hlt)]; rfl
   have hno := hide (fun (hz : l[k]?.getD 0 ≠ 0) => fnz_at ha.out hx hz)
   have hyes := hide (fun (hz : l[k]?.getD 0 = 0) => show ∀ j, j < k + 1 → l[j]? = some 0 from fun j hj => by
    rcases Nat.lt_succ_iff_lt_or_eq.1 hj with h | rfl
    ·exact ha.out j h
    ·rw [hx, hz])
   generalize l[k]?.getD 0 = x at *
   simp only [addr_flat, Nat.zero_add] at hc
   clear hx
   by_cases hx : x = 0
   ·subst hx
    have hy := hide (hyes.out rfl)
    clear hno hyes
    go_wp2
    go_round
    case rel => exact ⟨k + 1, by omega, by go_num, hy⟩
    case measure => simp [intOf]; omega
   ·obtain rfl : r = x := by rw [hr.out]; exact hno.out hx
    have d1 : (r != 0) = true := by simpa using hx
    have d2 : decide (r = 0) = false := decide_eq_false hx
    clear hno hyes
    replace hx := hide hx
    go_wp2
    go_ret
    exact ⟨rfl, hb.out⟩
  ·obtain rfl : k = n := by omega
   obtain rfl : r = 0 := by rw [hr.out]; exact fnz_all (fun j hj => ha.out j (by rw [← hl.out]; exact hj))
   go_wp2
   go_ret
   exact ⟨rfl, hb.out⟩
def cntS (S : BkS) : Bool := decide (S.ix.n = S.ti.n) && !decide (S.ty.n = 0) && !decide (S.ch.n = 0) && (decide (S.sd.n = 0) || decide (S.sd.n = S.ty.n)) && (decide (S.ut.n = 0) || decide (S.ut.n = S.ty.n))
theorem cntS_fnz (b1 b2 b3 b4 b5 : Bool) : fnz [rq b1 6, rq b2 6, rq b3 6, rq b4 6, rq b5 6] = rq (b1 && b2 && b3 && b4 && b5) 6 := by
 cases b1 <;> cases b2 <;> cases b3 <;> cases b4 <;> cases b5 <;> rfl
theorem checkCounts (S : BkS) (w : World) : Calls Tryz.prog 50 #[bkV S] w fun e w' => e = .returned (.int .i64 (rq (cntS S) 6)) ∧ Below w.heap.size w w' := by
 unfold cntS
 obtain ⟨⟨A0, n0, c0⟩, ⟨A1, n1, c1⟩, ⟨A2, n2, c2⟩, ⟨A3, n3, c3⟩, ⟨A4, n4, c4⟩, ⟨A5, n5, c5⟩, ⟨A6, n6, c6⟩⟩ := S
 dsimp only [bkV]
 obtain ⟨cs, hcs⟩ : ∃ cs : Array Value, cs = #[.slice A0 n0 c0, .slice A1 n1 c1, .slice A2 n2 c2, .slice A3 n3 c3, .slice A4 n4 c4, .slice A5 n5 c5, .slice A6 n6 c6] := ⟨_, rfl⟩
 have q0 := hide (show cs[0]? = some (.slice A0 n0 c0) by rw [hcs]; rfl)
 have q1 := hide (show cs[1]? = some (.slice A1 n1 c1) by rw [hcs]; rfl)
 have q2 := hide (show cs[2]? = some (.slice A2 n2 c2) by rw [hcs]; rfl)
 have q3 := hide (show cs[3]? = some (.slice A3 n3 c3) by rw [hcs]; rfl)
 have q4 := hide (show cs[4]? = some (.slice A4 n4 c4) by rw [hcs]; rfl)
 have q5 := hide (show cs[5]? = some (.slice A5 n5 c5) by rw [hcs]; rfl)
 have q6 := hide (show cs[6]? = some (.slice A6 n6 c6) by rw [hcs]; rfl)
 rw [← hcs]
 have k3 := hide (Ro.new w cs 28)
 have hb := hide (bl_new w (.cells cs 28))
 clear hcs
 have I4 := hide (fun w => isCountOrNone n5 n2 w)
 have I5 := hide (fun w => isCountOrNone n6 n2 w)
 generalize (decide (n5 = 0) || decide (n5 = n2)) = b4 at *
 generalize (decide (n6 = 0) || decide (n6 = n2)) = b5 at *
 obtain ⟨b1, h1⟩ : ∃ b, b = decide (n1 = n0) := ⟨_, rfl⟩
 obtain ⟨b2, h2⟩ : ∃ b, b = !decide (n2 = 0) := ⟨_, rfl⟩
 obtain ⟨b3, h3⟩ : ∃ b, b = !decide (n3 = 0) := ⟨_, rfl⟩
 rw [← h1, ← h2, ← h3, ← cntS_fnz]
 have f1 : decide ((n1 : Int) = (n0 : Int)) = b1 := by rw [h1, decide_eq_decide]; omega
 have e1 : ((n1 : Int) == (n0 : Int)) = b1 := by rw [← f1]; rfl
 have f2 : decide (0 < (n2 : Int)) = b2 := by rw [h2, ← decide_not, decide_eq_decide]; omega
 have f3 : decide (0 < (n3 : Int)) = b3 := by rw [h3, ← decide_not, decide_eq_decide]; omega
 have v1 := h1.symm
 have v2 : decide (0 < n2) = b2 := by rw [h2, ← decide_not, decide_eq_decide]; omega
 have v3 : decide (0 < n3) = b3 := by rw [h3, ← decide_not, decide_eq_decide]; omega
 clear h1 h2 h3
 have C1 := hide (fun w => require b1 6 w)
 have C2 := hide (fun w => require b2 6 w)
 have C3 := hide (fun w => require b3 6 w)
 have C4 := hide (fun w => require b4 6 w)
 have C5 := hide (fun w => require b5 6 w)
 generalize rq b1 6 = x1 at *
 generalize rq b2 6 = x2 at *
 generalize rq b3 6 = x3 at *
 generalize rq b4 6 = x4 at *
 generalize rq b5 6 = x5 at *
 have O := hide (fun B w (h : Ro w B #[.int .i64 x1, .int .i64 x2, .int .i64 x3, .int .i64 x4, .int .i64 x5] 35) => or_ [x1, x2, x3, x4, x5] 5 B w (rd_ro (cs := [.int .i64 x1, .int .i64 x2, .int .i64 x3, .int .i64 x4, .int .i64 x5]) h) (by decide))
 generalize fnz [x1, x2, x3, x4, x5] = r at *
 go_enter Tryz.func50, Tryz.ntmps50
 go_upto_region 1 with fail
 generalize (w.alloc (.cells cs 28)) = u at *
 refine wp_region_held_drew (S := fun w' => Hid (Ro w' (w.heap.size) (cs) 28) ∧ Hid (Below w.heap.size w w')) (by kernel_rfl) (⟨hide k3.out.drew, hide (bl_drew hb.out)⟩) (fun hHeld => ?_)
 generalize u.drew = u0 at *
 refine wpAnyH_takeD (i := 0) (d := (some 3)) (v := ?_) rfl rfl (by kernel_rfl) (by kernel_rfl) (by kernel_rfl) (fun _ _ _ h => h) (Or.inl ⟨by rfl, ?_⟩) (by assumption) ?_
 rotate_left
 ·((intro w hSw; go_simp) <;> with_reducible rfl)
 try simp only [Act.put, sI1, sI2, sI3]
 refine wpAnyH_takeD (i := 1) (d := (some 4)) (v := ?_) rfl rfl (by kernel_rfl) (by kernel_rfl) (by kernel_rfl) (fun _ _ _ h => h) (Or.inl ⟨by rfl, ?_⟩) (by assumption) ?_
 rotate_left
 ·((intro w hSw; obtain ⟨y1, _⟩ := ro_cf hSw.1.out 1 _ q1.out; go_simp) <;> with_reducible rfl)
 try simp only [Act.put, sI1, sI2, sI3]
 refine wpAnyH_takeD (i := 2) (d := (some 5)) (v := ?_) rfl rfl (by kernel_rfl) (by kernel_rfl) (by kernel_rfl) (fun _ _ _ h => h) (Or.inl ⟨by rfl, ?_⟩) (by assumption) ?_
 rotate_left
 ·((intro w hSw; go_simp) <;> with_reducible rfl)
 try simp only [Act.put, sI1, sI2, sI3]
 refine wpAnyH_takeD (i := 3) (d := (some 6)) (v := ?_) rfl rfl (by kernel_rfl) (by kernel_rfl) (by kernel_rfl) (fun _ _ _ h => h) (Or.inl ⟨by rfl, ?_⟩) (by assumption) ?_
 rotate_left
 ·((intro w hSw; go_simp) <;> with_reducible rfl)
 try simp only [Act.put, sI1, sI2, sI3]
 refine wpAnyH_takeD (i := 4) (d := (some 7)) (v := ?_) rfl rfl (by kernel_rfl) (by kernel_rfl) (by kernel_rfl) (fun _ _ _ h => h) (Or.inl ⟨by rfl, ?_⟩) (by assumption) ?_
 rotate_left
 ·((intro w hSw; obtain ⟨y0, _⟩ := ro_cf hSw.1.out 0 _ q0.out; go_simp) <;> with_reducible rfl)
 try simp only [Act.put, sI1, sI2, sI3]
 refine wpAnyH_takeD (i := 5) (d := (some 8)) (v := ?_) rfl rfl (by kernel_rfl) (by kernel_rfl) (by kernel_rfl) (fun _ _ _ h => h) (Or.inl ⟨by rfl, ?_⟩) (by assumption) ?_
 rotate_left
 ·((intro w hSw; go_simp) <;> with_reducible rfl)
 try simp only [Act.put, sI1, sI2, sI3]
 refine wpAnyH_takeD (i := 6) (d := (some 9)) (v := ?_) rfl rfl (by kernel_rfl) (by kernel_rfl) (by kernel_rfl) (fun _ _ _ h => h) (Or.inl ⟨by rfl, ?_⟩) (by assumption) ?_
 rotate_left
 ·((intro w hSw; go_simp) <;> with_reducible rfl)
 try simp only [Act.put, sI1, sI2, sI3]
 refine wpAnyH_takeD (i := 8) (d := (some 11)) (v := ?_) rfl rfl (by kernel_rfl) (by kernel_rfl) (by kernel_rfl) (fun _ _ _ h => h) (Or.inl ⟨by rfl, ?_⟩) (by assumption) ?_
 rotate_left
 ·((intro w hSw; go_simp) <;> with_reducible rfl)
 try simp only [Act.put, sI1, sI2, sI3]
 refine wpAnyH_takeD (i := 9) (d := (some 12)) (v := ?_) rfl rfl (by kernel_rfl) (by kernel_rfl) (by kernel_rfl) (fun _ _ _ h => h) (Or.inl ⟨by rfl, ?_⟩) (by assumption) ?_
 rotate_left
 ·((intro w hSw; obtain ⟨y2, _⟩ := ro_cf hSw.1.out 2 _ q2.out; go_simp) <;> with_reducible rfl)
 try simp only [Act.put, sI1, sI2, sI3]
 refine wpAnyH_takeD (i := 10) (d := (some 13)) (v := ?_) rfl rfl (by kernel_rfl) (by kernel_rfl) (by kernel_rfl) (fun _ _ _ h => h) (Or.inl ⟨by rfl, ?_⟩) (by assumption) ?_
 rotate_left
 ·((intro w hSw; go_simp) <;> with_reducible rfl)
 try simp only [Act.put, sI1, sI2, sI3]
 refine wpAnyH_takeD (i := 11) (d := (some 14)) (v := ?_) rfl rfl (by kernel_rfl) (by kernel_rfl) (by kernel_rfl) (fun _ _ _ h => h) (Or.inl ⟨by rfl, ?_⟩) (by assumption) ?_
 rotate_left
 ·((intro w hSw; go_simp) <;> with_reducible rfl)
 try simp only [Act.put, sI1, sI2, sI3]
 refine wpAnyH_takeD (i := 13) (d := (some 16)) (v := ?_) rfl rfl (by kernel_rfl) (by kernel_rfl) (by kernel_rfl) (fun _ _ _ h => h) (Or.inl ⟨by rfl, ?_⟩) (by assumption) ?_
 rotate_left
 ·((intro w hSw; go_simp) <;> with_reducible rfl)
 try simp only [Act.put, sI1, sI2, sI3]
 refine wpAnyH_takeD (i := 14) (d := (some 17)) (v := ?_) rfl rfl (by kernel_rfl) (by kernel_rfl) (by kernel_rfl) (fun _ _ _ h => h) (Or.inl ⟨by rfl, ?_⟩) (by assumption) ?_
 rotate_left
 ·((intro w hSw; obtain ⟨y3, _⟩ := ro_cf hSw.1.out 3 _ q3.out; go_simp) <;> with_reducible rfl)
 try simp only [Act.put, sI1, sI2, sI3]
 refine wpAnyH_takeD (i := 15) (d := (some 18)) (v := ?_) rfl rfl (by kernel_rfl) (by kernel_rfl) (by kernel_rfl) (fun _ _ _ h => h) (Or.inl ⟨by rfl, ?_⟩) (by assumption) ?_
 rotate_left
 ·((intro w hSw; go_simp) <;> with_reducible rfl)
 try simp only [Act.put, sI1, sI2, sI3]
 refine wpAnyH_takeD (i := 16) (d := (some 19)) (v := ?_) rfl rfl (by kernel_rfl) (by kernel_rfl) (by kernel_rfl) (fun _ _ _ h => h) (Or.inl ⟨by rfl, ?_⟩) (by assumption) ?_
 rotate_left
 ·((intro w hSw; go_simp) <;> with_reducible rfl)
 try simp only [Act.put, sI1, sI2, sI3]
 refine wpAnyH_takeD (i := 18) (d := (some 21)) (v := ?_) rfl rfl (by kernel_rfl) (by kernel_rfl) (by kernel_rfl) (fun _ _ _ h => h) (Or.inl ⟨by rfl, ?_⟩) (by assumption) ?_
 rotate_left
 ·((intro w hSw; go_simp) <;> with_reducible rfl)
 try simp only [Act.put, sI1, sI2, sI3]
 refine wpAnyH_takeD (i := 19) (d := (some 22)) (v := ?_) rfl rfl (by kernel_rfl) (by kernel_rfl) (by kernel_rfl) (fun _ _ _ h => h) (Or.inl ⟨by rfl, ?_⟩) (by assumption) ?_
 rotate_left
 ·((intro w hSw; obtain ⟨y5, _⟩ := ro_cf hSw.1.out 5 _ q5.out; go_simp) <;> with_reducible rfl)
 try simp only [Act.put, sI1, sI2, sI3]
 refine wpAnyH_takeD (i := 20) (d := (some 23)) (v := ?_) rfl rfl (by kernel_rfl) (by kernel_rfl) (by kernel_rfl) (fun _ _ _ h => h) (Or.inl ⟨by rfl, ?_⟩) (by assumption) ?_
 rotate_left
 ·((intro w hSw; go_simp) <;> with_reducible rfl)
 try simp only [Act.put, sI1, sI2, sI3]
 refine wpAnyH_takeD (i := 21) (d := (some 24)) (v := ?_) rfl rfl (by kernel_rfl) (by kernel_rfl) (by kernel_rfl) (fun _ _ _ h => h) (Or.inl ⟨by rfl, ?_⟩) (by assumption) ?_
 rotate_left
 ·((intro w hSw; go_simp) <;> with_reducible rfl)
 try simp only [Act.put, sI1, sI2, sI3]
 refine wpAnyH_takeD (i := 22) (d := (some 25)) (v := ?_) rfl rfl (by kernel_rfl) (by kernel_rfl) (by kernel_rfl) (fun _ _ _ h => h) (Or.inl ⟨by rfl, ?_⟩) (by assumption) ?_
 rotate_left
 ·((intro w hSw; obtain ⟨y2, _⟩ := ro_cf hSw.1.out 2 _ q2.out; go_simp) <;> with_reducible rfl)
 try simp only [Act.put, sI1, sI2, sI3]
 refine wpAnyH_takeD (i := 23) (d := (some 26)) (v := ?_) rfl rfl (by kernel_rfl) (by kernel_rfl) (by kernel_rfl) (fun _ _ _ h => h) (Or.inl ⟨by rfl, ?_⟩) (by assumption) ?_
 rotate_left
 ·((intro w hSw; go_simp) <;> with_reducible rfl)
 try simp only [Act.put, sI1, sI2, sI3]
 refine wpAnyH_takeD (i := 26) (d := (some 29)) (v := ?_) rfl rfl (by kernel_rfl) (by kernel_rfl) (by kernel_rfl) (fun _ _ _ h => h) (Or.inl ⟨by rfl, ?_⟩) (by assumption) ?_
 rotate_left
 ·((intro w hSw; go_simp) <;> with_reducible rfl)
 try simp only [Act.put, sI1, sI2, sI3]
 refine wpAnyH_takeD (i := 27) (d := (some 30)) (v := ?_) rfl rfl (by kernel_rfl) (by kernel_rfl) (by kernel_rfl) (fun _ _ _ h => h) (Or.inl ⟨by rfl, ?_⟩) (by assumption) ?_
 rotate_left
 ·((intro w hSw; obtain ⟨y6, _⟩ := ro_cf hSw.1.out 6 _ q6.out; go_simp) <;> with_reducible rfl)
 try simp only [Act.put, sI1, sI2, sI3]
 refine wpAnyH_takeD (i := 28) (d := (some 31)) (v := ?_) rfl rfl (by kernel_rfl) (by kernel_rfl) (by kernel_rfl) (fun _ _ _ h => h) (Or.inl ⟨by rfl, ?_⟩) (by assumption) ?_
 rotate_left
 ·((intro w hSw; go_simp) <;> with_reducible rfl)
 try simp only [Act.put, sI1, sI2, sI3]
 refine wpAnyH_takeD (i := 29) (d := (some 32)) (v := ?_) rfl rfl (by kernel_rfl) (by kernel_rfl) (by kernel_rfl) (fun _ _ _ h => h) (Or.inl ⟨by rfl, ?_⟩) (by assumption) ?_
 rotate_left
 ·((intro w hSw; go_simp) <;> with_reducible rfl)
 try simp only [Act.put, sI1, sI2, sI3]
 refine wpAnyH_takeD (i := 30) (d := (some 33)) (v := ?_) rfl rfl (by kernel_rfl) (by kernel_rfl) (by kernel_rfl) (fun _ _ _ h => h) (Or.inl ⟨by rfl, ?_⟩) (by assumption) ?_
 rotate_left
 ·((intro w hSw; obtain ⟨y2, _⟩ := ro_cf hSw.1.out 2 _ q2.out; go_simp) <;> with_reducible rfl)
 try simp only [Act.put, sI1, sI2, sI3]
 refine wpAnyH_takeD (i := 31) (d := (some 34)) (v := ?_) rfl rfl (by kernel_rfl) (by kernel_rfl) (by kernel_rfl) (fun _ _ _ h => h) (Or.inl ⟨by rfl, ?_⟩) (by assumption) ?_
 rotate_left
 ·((intro w hSw; go_simp) <;> with_reducible rfl)
 try simp only [Act.put, sI1, sI2, sI3]
 refine wpAnyH_ready (rs := [7]) (by kernel_rfl) (by simp) ?_
 refine AllReadyH.cons rfl (fun K hK => ?_) (AllReadyH.nil)
 go_simp
 refine (C1.out _).mono ?_
 rintro e v1 ⟨rfl, h1'⟩
 refine hK.out _ _ (⟨hide (hHeld.1.out.below h1'), hide (bel_next hHeld.2.out h1')⟩) (fun hHeld => ?_)
 clear hK K h1'
 try simp only [Act.put, sI1, sI2, sI3]
 refine wpAnyH_ready (rs := [12]) (by kernel_rfl) (by simp) ?_
 refine AllReadyH.cons rfl (fun K hK => ?_) (AllReadyH.nil)
 go_simp
 refine (C2.out _).mono ?_
 rintro e v2 ⟨rfl, h1'⟩
 refine hK.out _ _ (⟨hide (hHeld.1.out.below h1'), hide (bel_next hHeld.2.out h1')⟩) (fun hHeld => ?_)
 clear hK K h1'
 try simp only [Act.put, sI1, sI2, sI3]
 refine wpAnyH_ready (rs := [17]) (by kernel_rfl) (by simp) ?_
 refine AllReadyH.cons rfl (fun K hK => ?_) (AllReadyH.nil)
 go_simp
 refine (C3.out _).mono ?_
 rintro e v3 ⟨rfl, h1'⟩
 refine hK.out _ _ (⟨hide (hHeld.1.out.below h1'), hide (bel_next hHeld.2.out h1')⟩) (fun hHeld => ?_)
 clear hK K h1'
 try simp only [Act.put, sI1, sI2, sI3]
 refine wpAnyH_ready (rs := [24]) (by kernel_rfl) (by simp) ?_
 refine AllReadyH.cons rfl (fun K hK => ?_) (AllReadyH.nil)
 go_simp
 refine (I4.out _).mono ?_
 rintro e v4 ⟨rfl, h1'⟩
 refine hK.out _ _ (⟨hide (hHeld.1.out.below h1'), hide (bel_next hHeld.2.out h1')⟩) (fun hHeld => ?_)
 clear hK K h1'
 try simp only [Act.put, sI1, sI2, sI3]
 refine wpAnyH_ready (rs := [25]) (by kernel_rfl) (by simp) ?_
 refine AllReadyH.cons rfl (fun K hK => ?_) (AllReadyH.nil)
 go_simp
 refine (C4.out _).mono ?_
 rintro e v5 ⟨rfl, h1'⟩
 refine hK.out _ _ (⟨hide (hHeld.1.out.below h1'), hide (bel_next hHeld.2.out h1')⟩) (fun hHeld => ?_)
 clear hK K h1'
 try simp only [Act.put, sI1, sI2, sI3]
 refine wpAnyH_ready (rs := [32]) (by kernel_rfl) (by simp) ?_
 refine AllReadyH.cons rfl (fun K hK => ?_) (AllReadyH.nil)
 go_simp
 refine (I5.out _).mono ?_
 rintro e v6 ⟨rfl, h1'⟩
 refine hK.out _ _ (⟨hide (hHeld.1.out.below h1'), hide (bel_next hHeld.2.out h1')⟩) (fun hHeld => ?_)
 clear hK K h1'
 try simp only [Act.put, sI1, sI2, sI3]
 refine wpAnyH_ready (rs := [33]) (by kernel_rfl) (by simp) ?_
 refine AllReadyH.cons rfl (fun K hK => ?_) (AllReadyH.nil)
 go_simp
 refine (C5.out _).mono ?_
 rintro e v7 ⟨rfl, h1'⟩
 refine hK.out _ _ (⟨hide (hHeld.1.out.below h1'), hide (bel_next hHeld.2.out h1')⟩) (fun hHeld => ?_)
 clear hK K h1'
 try simp only [Act.put, sI1, sI2, sI3]
 refine wpAnyH_ready (rs := [34]) (by kernel_rfl) (by simp) ?_
 refine AllReadyH.cons rfl (fun K hK => ?_) (AllReadyH.nil)
 go_simp
 have hz_s := hide (Ro.new v7 #[.int .i64 x1, .int .i64 x2, .int .i64 x3, .int .i64 x4, .int .i64 x5] 35)
 refine hK.out _ _ (⟨hide (hHeld.1.out.alloc _), hide (bl_alloc hHeld.2.out _)⟩) (fun hHeld => ?_)
 clear hK K
 generalize v7.heap.size = g_s at *
 generalize v7.alloc (.cells #[.int .i64 x1, .int .i64 x2, .int .i64 x3, .int .i64 x4, .int .i64 x5] 35) = v8 at *
 try simp only [Act.put, sI1, sI2, sI3]
 refine wpAnyH_ready (rs := [35]) (by kernel_rfl) (by simp) ?_
 refine AllReadyH.cons rfl (fun K hK => ?_) (AllReadyH.nil)
 go_simp
 refine (O.out g_s _ hz_s.out).mono ?_
 rintro e v9 ⟨rfl, h1'⟩
 replace hz_s := hide (hz_s.out.below h1')
 refine hK.out _ _ (⟨hide (hHeld.1.out.below h1'), hide (bel_next hHeld.2.out h1')⟩) (fun hHeld => ?_)
 clear hK K h1'
 try simp only [Act.put, sI1, sI2, sI3]
 refine wpAnyH_takeD (i := 36) (d := (some 2)) (v := ?_) rfl rfl (by kernel_rfl) (by kernel_rfl) (by kernel_rfl) (fun _ _ _ h => h) (Or.inl ⟨by rfl, ?_⟩) (by assumption) ?_
 rotate_left
 ·((intro w hSw; go_simp) <;> with_reducible rfl)
 try simp only [Act.put, sI1, sI2, sI3]
 refine wpAnyH_done (by kernel_rfl) ?_ _
 go_wp2_with fail
 go_ret
 exact ⟨rfl, hHeld.2.out⟩
def rowL_ (ts : List LP) (n q : Nat) : List Int := (ts.take q).map (·.1) ++ List.replicate (n - q) 0
theorem rowL_at {ts : List LP} {n q : Nat} (hl : ts.length = n) (h : q < n) : (rowL_ ts n q)[q]? = some 0 := by
 unfold rowL_
 have e : ((ts.take q).map (·.1)).length = q := by simp; omega
 rw [List.getElem?_append_right (by omega), e, Nat.sub_self, List.getElem?_replicate, if_pos (by omega)]
theorem rowL_set {ts : List LP} {n q : Nat} (hl : ts.length = n) (h : q < n) {t : LP} (ht : ts[q]? = some t) : (rowL_ ts n q).set q t.1 = rowL_ ts n (q + 1) := by
 unfold rowL_
 have e : ((ts.take q).map (·.1)).length = q := by simp; omega
 rw [List.set_append_right _ _ (by omega), e, Nat.sub_self, show n - q = (n - (q + 1)) + 1 by omega, List.replicate_succ, List.set_cons_zero, List.take_add_one, ht]
 simp
theorem leapTimes (A : Option Addr) (n c : Nat) (ts : List LP) (w : World) (hn : n ≤ 100000) (hr : Rk 2 w A n (lcs ts)) :
 Calls Tryz.prog 98 #[.slice A n c] w fun e w' => ∃ A' c', e = .returned (.slice A' n c') ∧ Ow w' w.heap.size 2 A' n c' ((ts.map (·.1)).map (Value.int .i64)) ∧ Below w.heap.size w w' := by
 have hl : ts.length = n := by have := hr.len; rw [lcs_len] at this; omega
 have HL := hide hl
 clear hl
 go_enter Tryz.func98, Tryz.ntmps98
 go_wp2_with (refine mk (n := n) (k := n) tr_.elI64 (Below.refl w.heap.size _) (Nat.le_refl _) (Nat.le_refl _) rfl (.tmp 7) (.tmp 7) rfl .i64 .i64 _ _ rfl rfl rfl rfl (Nat.le_refl _) (by omega) (by simp [maxLen]; omega) ?_; intro w1 ho1 hb1)
 have h0 : (List.replicate n (Value.int .i64 0)) = (rowL_ ts n 0).map (Value.int .i64) := by simp [rowL_]
 rw [h0] at ho1
 clear h0
 go_loopw [11] (fun i wr => ∃ (q : Nat), q ≤ n ∧ i = .int .i64 (q : Nat) ∧ Hid (Ow wr w.heap.size 2 (some ⟨w.heap.size, 0, none⟩) n n ((rowL_ ts n q).map (Value.int .i64))) ∧ Hid (Below w.heap.size w wr)) (fun i _ => n - (intOf i).toNat)
 case atStart => exact ⟨0, by omega, rfl, hide ho1, hide hb1⟩
 case round =>
  clear ho1 hb1
  obtain ⟨q, hqm, rfl, ho, hw⟩ := hrel
  by_cases hlt : q < n
  ·obtain ⟨ad, t, e1, ht, f0, f1⟩ := (hr.below hw.out).lp hlt
   subst e1
   have hs := hide (rowL_set HL.out hlt ht)
   obtain ⟨t1, t2⟩ := t
   dsimp only at f0 f1 hs
   clear ht
   have kx := hide (Ro.new wr #[.int .i64 t1, .int .i32 t2] 64)
   replace hw := hide (bl_alloc hw.out (.cells #[.int .i64 t1, .int .i32 t2] 64))
   replace ho := hide (ho.out.alloc (.cells #[.int .i64 t1, .int .i32 t2] 64))
   go_upto_region 5 with fail
   generalize wr.heap.size = gx at *
   generalize wr.alloc (.cells #[.int .i64 t1, .int .i32 t2] 64) = u at *
   obtain ⟨y0, _⟩ := ro_cf kx.out 0 _ rfl
   have hset := ho.out.set q (.int .i64 t1)
   rw [← List.map_set, hs.out] at hset
   have hcl := ho.out.cell q hlt
   rw [List.getElem?_map, rowL_at HL.out hlt, Option.map_some] at hcl
   have hfr := ho.out.frozen q
   have hbs := hide (bl_set (g := w.heap.size) (o := q) hw.out (Nat.le_refl _) (.int .i64 t1))
   replace hset := hide hset
   clear ho hw hs f0 f1 kx
   go_wp2
   go_roundw
   case rel => exact ⟨q + 1, by omega, by go_num, hset, hbs⟩
   case measure => simp [intOf]; omega
  ·obtain rfl : q = n := by omega
   have e0 : rowL_ ts q q = ts.map (·.1) := by unfold rowL_; rw [List.take_of_length_le (by rw [HL.out]; exact Nat.le_refl _)]; simp
   have := ho.out
   rw [e0] at this
   go_wp2
   go_ret
   exact ⟨_, _, rfl, this, hw.out⟩
theorem fnz2 (b1 b2 : Bool) (e : Int) : fnz [rq b1 e, rq b2 e] = rq (b1 && b2) e := by
 cases b1 <;> cases b2 <;> simp [fnz, rq] <;> (intro h; exact h.symm)
theorem fT_lf (k : Nat) (ts : List LP) : fT k (ts.map (·.1)) = lfit k ts := by
 unfold fT lfit
 rw [List.all_map]
 rfl
theorem checkTimes (S : BkS) (b : Bk) (k : Nat) (w : World) (hk : k = 4 ∨ k = 8) (h : IsBk w S b) (hs : S.small) : Calls Tryz.prog 52 #[bkV S, .int .i64 (k : Int)] w fun e w' => e = .returned (.int .i64 (rq (fT k b.ti && lfit k b.lp) 18)) ∧ Below w.heap.size w w' := by
 have r0 := h.ti
 have r4 := h.lp
 have o0 := h.oti
 have k0 := h.ok.ti
 have k4 := h.ok.lp
 obtain ⟨s0, _, _, _, s4, _, _⟩ := hs
 clear h
 rw [← fT_lf]
 generalize b.ti = l0 at *
 generalize b.lp = ts at *
 obtain ⟨⟨A0, n0, c0⟩, ⟨A1, n1, c1⟩, ⟨A2, n2, c2⟩, ⟨A3, n3, c3⟩, ⟨A4, n4, c4⟩, ⟨A5, n5, c5⟩, ⟨A6, n6, c6⟩⟩ := S
 dsimp only [bkV]
 obtain ⟨cs, hcs⟩ : ∃ cs : Array Value, cs = #[.slice A0 n0 c0, .slice A1 n1 c1, .slice A2 n2 c2, .slice A3 n3 c3, .slice A4 n4 c4, .slice A5 n5 c5, .slice A6 n6 c6] := ⟨_, rfl⟩
 have q0 := hide (show cs[0]? = some (.slice A0 n0 c0) by rw [hcs]; rfl)
 have q1 := hide (show cs[1]? = some (.slice A1 n1 c1) by rw [hcs]; rfl)
 have q2 := hide (show cs[2]? = some (.slice A2 n2 c2) by rw [hcs]; rfl)
 have q3 := hide (show cs[3]? = some (.slice A3 n3 c3) by rw [hcs]; rfl)
 have q4 := hide (show cs[4]? = some (.slice A4 n4 c4) by rw [hcs]; rfl)
 have q5 := hide (show cs[5]? = some (.slice A5 n5 c5) by rw [hcs]; rfl)
 have q6 := hide (show cs[6]? = some (.slice A6 n6 c6) by rw [hcs]; rfl)
 rw [← hcs]
 have k3 := hide (Ro.new w cs 28)
 have hb := hide (bl_new w (.cells cs 28))
 dsimp only at r0 r4 o0 s0 s4
 replace r0 := hide (r0.below hb.out)
 replace r4 := hide (r4.below hb.out)
 have F1 := hide (fun w h => tr_.Fit A0 n0 c0 l0 k k w rfl hk (by omega) o0.1 h k0)
 have F2 := hide (fun w A c hA h => tr_.Fit A n4 c (ts.map (·.1)) k k w rfl hk (by omega) hA h (fun v hv => by
  obtain ⟨t, ht, rfl⟩ := List.mem_map.1 hv
  exact ⟨(k4 t ht).1, (k4 t ht).2.1⟩))
 have L := hide (fun w h => leapTimes A4 n4 c4 ts w (by omega) h)
 generalize fT k l0 = b1 at *
 generalize fT k (ts.map (·.1)) = b2 at *
 rw [← fnz2]
 have C1 := hide (fun w => require b1 18 w)
 have C2 := hide (fun w => require b2 18 w)
 generalize rq b1 18 = x1 at *
 generalize rq b2 18 = x2 at *
 have O := hide (fun B w (h : Ro w B #[.int .i64 x1, .int .i64 x2] 35) => or_ [x1, x2] 2 B w (rd_ro (cs := [.int .i64 x1, .int .i64 x2]) h) (by decide))
 generalize fnz [x1, x2] = r at *
 clear hcs o0 k0 k4 hk s0 s4
 go_enter Tryz.func52, Tryz.ntmps52
 go_upto_region 1 with fail
 generalize (w.alloc (.cells cs 28)) = u at *
 refine wp_region_held_drew (S := fun w' => Hid (Ro w' (w.heap.size) (cs) 28) ∧ Hid (Rd w' A0 n0 (l0.map (Value.int .i64))) ∧ Hid (Rk 2 w' A4 n4 (lcs ts)) ∧ Hid (Below w.heap.size w w')) (by kernel_rfl) (⟨hide k3.out.drew, hide r0.out.drew, hide r4.out.drew, hide (bl_drew hb.out)⟩) (fun hHeld => ?_)
 generalize u.drew = u0 at *
 refine wpAnyH_takeD (i := 0) (d := (some 5)) (v := ?_) rfl rfl (by kernel_rfl) (by kernel_rfl) (by kernel_rfl) (fun _ _ _ h => h) (Or.inl ⟨by rfl, ?_⟩) (by assumption) ?_
 rotate_left
 ·((intro w hSw; go_simp) <;> with_reducible rfl)
 try simp only [Act.put, sI1, sI2, sI3]
 refine wpAnyH_takeD (i := 1) (d := (some 6)) (v := ?_) rfl rfl (by kernel_rfl) (by kernel_rfl) (by kernel_rfl) (fun _ _ _ h => h) (Or.inl ⟨by rfl, ?_⟩) (by assumption) ?_
 rotate_left
 ·((intro w hSw; obtain ⟨y0, _⟩ := ro_cf hSw.1.out 0 _ q0.out; go_simp) <;> with_reducible rfl)
 try simp only [Act.put, sI1, sI2, sI3]
 refine wpAnyH_takeD (i := 2) (d := (some 7)) (v := ?_) rfl rfl (by kernel_rfl) (by kernel_rfl) (by kernel_rfl) (fun _ _ _ h => h) (Or.inl ⟨by rfl, ?_⟩) (by assumption) ?_
 rotate_left
 ·((intro w hSw; go_simp) <;> with_reducible rfl)
 try simp only [Act.put, sI1, sI2, sI3]
 refine wpAnyH_takeD (i := 5) (d := (some 10)) (v := ?_) rfl rfl (by kernel_rfl) (by kernel_rfl) (by kernel_rfl) (fun _ _ _ h => h) (Or.inl ⟨by rfl, ?_⟩) (by assumption) ?_
 rotate_left
 ·((intro w hSw; go_simp) <;> with_reducible rfl)
 try simp only [Act.put, sI1, sI2, sI3]
 refine wpAnyH_takeD (i := 6) (d := (some 11)) (v := ?_) rfl rfl (by kernel_rfl) (by kernel_rfl) (by kernel_rfl) (fun _ _ _ h => h) (Or.inl ⟨by rfl, ?_⟩) (by assumption) ?_
 rotate_left
 ·((intro w hSw; obtain ⟨y4, _⟩ := ro_cf hSw.1.out 4 _ q4.out; go_simp) <;> with_reducible rfl)
 try simp only [Act.put, sI1, sI2, sI3]
 refine wpAnyH_takeD (i := 8) (d := (some 13)) (v := ?_) rfl rfl (by kernel_rfl) (by kernel_rfl) (by kernel_rfl) (fun _ _ _ h => h) (Or.inl ⟨by rfl, ?_⟩) (by assumption) ?_
 rotate_left
 ·((intro w hSw; go_simp) <;> with_reducible rfl)
 try simp only [Act.put, sI1, sI2, sI3]
 refine wpAnyH_ready (rs := [3]) (by kernel_rfl) (by simp) ?_
 refine AllReadyH.cons rfl (fun K hK => ?_) (AllReadyH.nil)
 go_simp
 refine (F1.out _ hHeld.2.1.out).mono ?_
 rintro e v1 ⟨rfl, h1'⟩
 refine hK.out _ _ (⟨hide (hHeld.1.out.below h1'), hide (hHeld.2.1.out.below h1'), hide (hHeld.2.2.1.out.below h1'), hide (bel_next hHeld.2.2.2.out h1')⟩) (fun hHeld => ?_)
 clear hK K h1'
 try simp only [Act.put, sI1, sI2, sI3]
 refine wpAnyH_ready (rs := [4]) (by kernel_rfl) (by simp) ?_
 refine AllReadyH.cons rfl (fun K hK => ?_) (AllReadyH.nil)
 go_simp
 refine (C1.out _).mono ?_
 rintro e v2 ⟨rfl, h1'⟩
 refine hK.out _ _ (⟨hide (hHeld.1.out.below h1'), hide (hHeld.2.1.out.below h1'), hide (hHeld.2.2.1.out.below h1'), hide (bel_next hHeld.2.2.2.out h1')⟩) (fun hHeld => ?_)
 clear hK K h1'
 try simp only [Act.put, sI1, sI2, sI3]
 refine wpAnyH_ready (rs := [7]) (by kernel_rfl) (by simp) ?_
 refine AllReadyH.cons rfl (fun K hK => ?_) (AllReadyH.nil)
 go_simp
 refine (L.out _ hHeld.2.2.1.out).mono ?_
 rintro e v3 ⟨A', c', rfl, ho', h1'⟩; have nil' := hide ho'.nilcap; have rd' := hide ho'.rd; clear ho'
 refine hK.out _ _ (⟨hide (hHeld.1.out.below h1'), hide (hHeld.2.1.out.below h1'), hide (hHeld.2.2.1.out.below h1'), hide (bel_next hHeld.2.2.2.out h1')⟩) (fun hHeld => ?_)
 clear hK K h1'
 try simp only [Act.put, sI1, sI2, sI3]
 refine wpAnyH_ready (rs := [9]) (by kernel_rfl) (by simp) ?_
 refine AllReadyH.cons rfl (fun K hK => ?_) (AllReadyH.nil)
 go_simp
 refine (F2.out _ A' c' nil'.out rd'.out).mono ?_
 rintro e v4 ⟨rfl, h1'⟩; clear nil' rd'
 refine hK.out _ _ (⟨hide (hHeld.1.out.below h1'), hide (hHeld.2.1.out.below h1'), hide (hHeld.2.2.1.out.below h1'), hide (bel_next hHeld.2.2.2.out h1')⟩) (fun hHeld => ?_)
 clear hK K h1'
 try simp only [Act.put, sI1, sI2, sI3]
 refine wpAnyH_ready (rs := [10]) (by kernel_rfl) (by simp) ?_
 refine AllReadyH.cons rfl (fun K hK => ?_) (AllReadyH.nil)
 go_simp
 refine (C2.out _).mono ?_
 rintro e v5 ⟨rfl, h1'⟩
 refine hK.out _ _ (⟨hide (hHeld.1.out.below h1'), hide (hHeld.2.1.out.below h1'), hide (hHeld.2.2.1.out.below h1'), hide (bel_next hHeld.2.2.2.out h1')⟩) (fun hHeld => ?_)
 clear hK K h1'
 try simp only [Act.put, sI1, sI2, sI3]
 refine wpAnyH_ready (rs := [11]) (by kernel_rfl) (by simp) ?_
 refine AllReadyH.cons rfl (fun K hK => ?_) (AllReadyH.nil)
 go_simp
 have hz_s := hide (Ro.new v5 #[.int .i64 x1, .int .i64 x2] 35)
 refine hK.out _ _ (⟨hide (hHeld.1.out.alloc _), hide (hHeld.2.1.out.below (bl_new _ (.cells #[.int .i64 x1, .int .i64 x2] 35))), hide (hHeld.2.2.1.out.below (bl_new _ (.cells #[.int .i64 x1, .int .i64 x2] 35))), hide (bl_alloc hHeld.2.2.2.out _)⟩) (fun hHeld => ?_)
 clear hK K
 generalize v5.heap.size = g_s at *
 generalize v5.alloc (.cells #[.int .i64 x1, .int .i64 x2] 35) = v6 at *
 try simp only [Act.put, sI1, sI2, sI3]
 refine wpAnyH_ready (rs := [12]) (by kernel_rfl) (by simp) ?_
 refine AllReadyH.cons rfl (fun K hK => ?_) (AllReadyH.nil)
 go_simp
 refine (O.out g_s _ hz_s.out).mono ?_
 rintro e v7 ⟨rfl, h1'⟩
 replace hz_s := hide (hz_s.out.below h1')
 refine hK.out _ _ (⟨hide (hHeld.1.out.below h1'), hide (hHeld.2.1.out.below h1'), hide (hHeld.2.2.1.out.below h1'), hide (bel_next hHeld.2.2.2.out h1')⟩) (fun hHeld => ?_)
 clear hK K h1'
 try simp only [Act.put, sI1, sI2, sI3]
 refine wpAnyH_takeD (i := 13) (d := (some 4)) (v := ?_) rfl rfl (by kernel_rfl) (by kernel_rfl) (by kernel_rfl) (fun _ _ _ h => h) (Or.inl ⟨by rfl, ?_⟩) (by assumption) ?_
 rotate_left
 ·((intro w hSw; go_simp) <;> with_reducible rfl)
 try simp only [Act.put, sI1, sI2, sI3]
 refine wpAnyH_done (by kernel_rfl) ?_ _
 go_wp2_with fail
 go_ret
 exact ⟨rfl, hHeld.2.2.2.out⟩
theorem checkIndex (S : BkS) (b : Bk) (w : World) (h : IsBk w S b) (hs : S.small) : Calls Tryz.prog 56 #[bkV S] w fun e w' => e = .returned (.int .i64 (rq (ixOk b.ty.length b.ix) 8)) ∧ Below w.heap.size w w' := by
 have r1 := h.ix
 have k1 := hide h.ok.ix
 have l1 := h.lens.2.1
 have l2 := h.lens.2.2.1
 obtain ⟨_, s1, s2, _, _, _, _⟩ := hs
 clear h
 rw [l2]
 generalize b.ix = xs at *
 obtain ⟨⟨A0, n0, c0⟩, ⟨A1, n1, c1⟩, ⟨A2, n2, c2⟩, ⟨A3, n3, c3⟩, ⟨A4, n4, c4⟩, ⟨A5, n5, c5⟩, ⟨A6, n6, c6⟩⟩ := S
 dsimp only [bkV]
 obtain ⟨cs, hcs⟩ : ∃ cs : Array Value, cs = #[.slice A0 n0 c0, .slice A1 n1 c1, .slice A2 n2 c2, .slice A3 n3 c3, .slice A4 n4 c4, .slice A5 n5 c5, .slice A6 n6 c6] := ⟨_, rfl⟩
 have q0 := hide (show cs[0]? = some (.slice A0 n0 c0) by rw [hcs]; rfl)
 have q1 := hide (show cs[1]? = some (.slice A1 n1 c1) by rw [hcs]; rfl)
 have q2 := hide (show cs[2]? = some (.slice A2 n2 c2) by rw [hcs]; rfl)
 have q3 := hide (show cs[3]? = some (.slice A3 n3 c3) by rw [hcs]; rfl)
 have q4 := hide (show cs[4]? = some (.slice A4 n4 c4) by rw [hcs]; rfl)
 have q5 := hide (show cs[5]? = some (.slice A5 n5 c5) by rw [hcs]; rfl)
 have q6 := hide (show cs[6]? = some (.slice A6 n6 c6) by rw [hcs]; rfl)
 rw [← hcs]
 have k3 := hide (Ro.new w cs 28)
 have hb := hide (bl_new w (.cells cs 28))
 dsimp only at r1 l1 l2 s1 s2
 replace r1 := hide (r1.below hb.out)
 obtain ⟨r, hr⟩ : ∃ r, r = rq (ixOk n2 xs) 8 := ⟨_, rfl⟩
 rw [← hr]
 replace hr := hide hr
 replace l1 := hide l1
 clear hcs l2
 go_enter Tryz.func56, Tryz.ntmps56
 go_upto_region 1 with fail
 generalize (w.alloc (.cells cs 28)) = u at *
 obtain ⟨y1, _⟩ := ro_cf k3.out 1 _ q1.out
 obtain ⟨y2, _⟩ := ro_cf k3.out 2 _ q2.out
 go_upto_region 2 with fail
 go_loop [8] (fun iv => ∃ j : Nat, j ≤ n1 ∧ iv = .int .i64 (j : Nat) ∧ Hid (ixOk n2 (xs.take j) = true)) (fun i => n1 - (intOf i).toNat)
 case atStart => exact ⟨0, by omega, rfl, hide rfl⟩
 case round =>
  obtain ⟨j, hj, rfl, h5⟩ := hrel
  by_cases hlt : j < n1
  ·obtain ⟨ad, e1, hc⟩ := r1.out.int hlt
   subst e1
   have hx : xs[j]? = some (xs[j]?.getD 0) := by rw [List.getElem?_eq_getElem (by rw [l1.out]; exact hlt)]; rfl
   have hst := ix_step n2 xs j _ hx
   rw [h5.out, Bool.true_and] at hst
   have hno := hide (fun (hz : (n2 : Int) ≤ xs[j]?.getD 0) => ix_no hx hz)
   have hby := k1.out j
   generalize xs[j]?.getD 0 = x at *
   clear hx
   have wx_ : IntKind.i64.wrap x = x := by rw [IntKind.wrap_i64]; omega
   have hst2 := hide hst
   clear hst
   obtain ⟨z0, z1⟩ := hby
   by_cases hz : x < (n2 : Int)
   ·have d1 : decide ((n2 : Int) ≤ x) = false := decide_eq_false (by omega)
    have hs2 := hide (hst2.out.trans (decide_eq_true hz))
    clear hno hst2
    go_wp2
    go_round
    case rel => exact ⟨j + 1, by omega, by go_num, hs2⟩
    case measure => simp [intOf]; omega
   ·have d1 : decide ((n2 : Int) ≤ x) = true := decide_eq_true (by omega)
    obtain rfl : r = 8 := by rw [hr.out, hno.out (by omega)]; rfl
    clear hno hst2
    replace hz := hide hz
    go_wp2
    go_ret
    exact ⟨rfl, hb.out⟩
  ·obtain rfl : n1 = j := by omega
   rw [List.take_of_length_le (by rw [l1.out]; exact Nat.le_refl _)] at h5
   obtain rfl : r = 0 := by rw [hr.out, h5.out]; rfl
   go_wp2
   go_ret
   exact ⟨rfl, hb.out⟩
end vd_
end Go.Proofs.YtbehflfpdkedgaaGreatDoor

/-
  THE WALKS OF THE LAWS OF LAYER 10 (zoneinfolaw10): TzformatRoundTrip. No conditions.
-/
import Derived.Test.YtjeclakdgmjbjaaGreatDoorLaw10c
namespace Go.Proofs.YtjeclakdgmjbjaaGreatDoor
open Go.ChangeShapes Go.WideShapes Go.ChangeAt Go.RowKit
set_option linter.unusedVariables false
theorem tl_iff {a b : ByteArray} : a.toList = b.toList ↔ a = b := by
  refine ⟨fun h => ?_, fun h => by rw [h]⟩
  by_cases e : a = b
  · exact e
  · have := seq_ne e
    rw [h] at this
    simp at this
theorem wpAnyH_takeD {P : Program} {md : Region.Mode} {ops : Array Oper} {Q : Exit → Act → World → Prop} {S : World → Prop} {i : Nat} {oi : Oper} {d : Option Tmp} {v : Value} {fuel : Nat} {listed : Array Bool} {a : Act} {w : World} (hi : ops[i]? = some oi) (hd : oi.dst = d)
    (hs : Region.noSelect ops = true) (hf : Region.free md ops listed i = true) (hr : (Region.ready md ops listed).contains i = true)
    (hQ : ∀ c a w, Q (.panic c) (a.put d v) w → Q (.panic c) a w) (hy : YieldsIf P ops S oi v a) (hS : S w)
    (h : wpAnyH P md ops Q S fuel (listed.setIfInBounds i true) (a.put d v) w) : wpAnyH P md ops Q S (fuel + 1) listed a w := by
  subst hd
  exact wpAnyH_take hi hs hf hr hQ hy hS h
theorem yieldsIf_load_row {P : Program} {ops : Array Oper} {S : World → Prop} {op : Oper} {a : Act} (hw : Region.wanted op (yielded ops a.tmps) = true) (ty : TypeId) (x : Operand) (ho : op.op = .load ty x)
    (g : Nat) (hx : a.eval x = .pointer (some ⟨g, 0, none⟩)) (t : TypeId) (cs : Array Value) (d : TypeDesc) (hS : ∀ w, S w → Ro w g cs t)
    (hu : P.underlying ty = some d) (hd : (match d with | .struct _ | .array _ _ => true | _ => false) = true) (hi : (P.info? ty).map (·.size) = some cs.size) : YieldsIf P ops S op (.agg cs) a :=
  .inl ⟨hw, fun w hw' => by
    unfold execOp
    simp only [ho, hx, Sem.run_bind, Sem.run_pure, ((hS w hw').load ty d hu hd hi).1, Result.andThen_ok]⟩
/-- two rules, compared. -/
theorem rule_eq2 (std : ByteArray) (so : Int) (hd : Bool) (dst : ByteArray) (dof : Int) (st en : RD) (std' : ByteArray) (so' : Int) (hd' : Bool) (dst' : ByteArray) (dof' : Int) (st' en' : RD) (b : Bool)
    (hb : b = true ↔ (byt std, so, hd, byt dst, dof, st, en) = (byt std', so', hd', byt dst', dof', st', en')) (w : World) :
    (binOp .eql 25 (.agg (crule std so hd dst dof st en)) (.agg (crule std' so' hd' dst' dof' st' en'))).run Tryz.prog w = .ok (.bool b) w := by
  obtain ⟨s1, s2, s3, s4, s5, s6⟩ := st
  obtain ⟨e1, e2, e3, e4, e5, e6⟩ := en
  obtain ⟨t1, t2, t3, t4, t5, t6⟩ := st'
  obtain ⟨f1, f2, f3, f4, f5, f6⟩ := en'
  simp only [Prod.mk.injEq, byt_inj] at hb
  simp [go_sem, crule, tl_iff]
  repeat' split
  all_goals (cases b <;> simp_all)
theorem rule_ne_self (std : ByteArray) (so : Int) (hd : Bool) (dst : ByteArray) (dof : Int) (st en : RD) (w : World) : (binOp .neq 25 (.agg (crule std so hd dst dof st en)) (.agg (crule std so hd dst dof st en))).run Tryz.prog w = .ok (.bool false) w := by
  simp [go_sem, crule]
theorem ruleF_size {r : PR} (h : prOk r) : (ruleF r).length ≤ 1100 := by
  obtain ⟨n, so, hd, m, dof, st, en⟩ := r
  obtain ⟨hn, hso, hr⟩ := h
  simp only at hn hso hr
  have h1 := tnFmt_l hn
  have h3 := hmsFmt_len (x := -so) (by unfold offOk at hso; omega) (by unfold offOk at hso; omega)
  unfold ruleF
  cases hd
  · simp; omega
  · simp only [if_true] at hr
    obtain ⟨hnd, hdo, hst, hen⟩ := hr
    have h2 := tnFmt_l hnd
    have h4 := hmsFmt_len (x := -dof) (by unfold offOk at hdo; omega) (by unfold offOk at hdo; omega)
    have h5 := dayC_len hst
    have h6 := dayC_len hen
    simp only [if_true, List.length_append, List.length_cons]
    split
    · simp; omega
    · omega
namespace l10_
set_option maxRecDepth 100000 in
set_option maxHeartbeats 8000000 in
theorem rtC (std : ByteArray) (so : Int) (hd : Bool) (dst : ByteArray) (dof : Int) (st en : RD) (std' : ByteArray) (so' : Int) (hd' : Bool) (dst' : ByteArray) (dof' : Int) (st' en' : RD) (w : World) (hT : Tp w) (hs : std.size ≤ maxLen) (ht : dst.size ≤ maxLen) (hs' : std'.size ≤ maxLen) (ht' : dst'.size ≤ maxLen) :
    Calls Tryz.prog 4 #[.agg (crule std so hd dst dof st en), .agg (crule std' so' hd' dst' dof' st' en')] w fun e w' => e = .returned (.bool true) ∧ Below w.heap.size w w' := by
  have HT := hide hT
  clear hT
  have V := hide (fun w => r9_.Valid std so hd dst dof st en w hs ht)
  have V' := hide (fun w => r9_.Valid std' so' hd' dst' dof' st' en' w hs' ht')
  simp only [vrule_c] at V V'
  have G := gr_rule std so hd dst dof st en
  have G' := gr_rule std' so' hd' dst' dof' st' en'
  obtain ⟨cs, hcs⟩ : ∃ cs, crule std so hd dst dof st en = cs := ⟨_, rfl⟩
  obtain ⟨cu, hcu⟩ : ∃ cs, crule std' so' hd' dst' dof' st' en' = cs := ⟨_, rfl⟩
  rw [hcs] at V G ⊢
  rw [hcu] at V' G' ⊢
  have hb := hide (bl_alloc (bl_new w (.cells cs 25)) (.cells cu 25))
  have hB := hide ((Ro.new w cs 25).alloc (.cells cu 25))
  have hU := hide (show Ro ((w.alloc (.cells cs 25)).alloc (.cells cu 25)) (w.heap.size + 1) cu 25 by have := Ro.new (w.alloc (.cells cs 25)) cu 25; simpa using this)
  obtain ⟨v, hv⟩ : ∃ v, decide (prOk (byt std, so, hd, byt dst, dof, st, en)) = v := ⟨_, rfl⟩
  obtain ⟨v', hv'⟩ : ∃ v, decide (prOk (byt std', so', hd', byt dst', dof', st', en')) = v := ⟨_, rfl⟩
  rw [hv] at V
  rw [hv'] at V'
  cases v
  · clear hcs hcu hv hv'
    go_enter Tryz.func4, Tryz.ntmps4
    go_wp2_with fail
    refine (awake _ (by first | exact HT.out.below hb.out | exact HT.out.below (Hid.out (by assumption)))).mono ?_
    rintro e w1 ⟨rfl, h1⟩
    replace hB := hide (hB.out.below h1)
    replace hU := hide (hU.out.below h1)
    replace hb := hide (bel_next hb.out h1)
    clear h1
    go_wp2_with (refine load_row_g (by rfl) 25 _ rfl _ rfl _ _ _ hB.out Tryz.underlying25 rfl G.1 ?_)
    refine (V.out _).mono ?_
    rintro e w1 ⟨rfl, h1⟩
    replace hb := hide (bel_next hb.out h1)
    clear h1
    go_wp2_with fail
    refine (awake _ (by first | exact HT.out.below hb.out | exact HT.out.below (Hid.out (by assumption)))).mono ?_
    rintro e w1 ⟨rfl, h1⟩
    replace hb := hide (bel_next hb.out h1)
    clear h1
    go_wp2
    go_ret
    exact ⟨rfl, hb.out⟩
  cases v'
  · clear hcs hcu hv hv'
    go_enter Tryz.func4, Tryz.ntmps4
    go_wp2_with fail
    refine (awake _ (by first | exact HT.out.below hb.out | exact HT.out.below (Hid.out (by assumption)))).mono ?_
    rintro e w1 ⟨rfl, h1⟩
    replace hB := hide (hB.out.below h1)
    replace hU := hide (hU.out.below h1)
    replace hb := hide (bel_next hb.out h1)
    clear h1
    go_wp2_with (refine load_row_g (by rfl) 25 _ rfl _ rfl _ _ _ hB.out Tryz.underlying25 rfl G.1 ?_)
    refine (V.out _).mono ?_
    rintro e w1 ⟨rfl, h1⟩
    replace hB := hide (hB.out.below h1)
    replace hU := hide (hU.out.below h1)
    replace hb := hide (bel_next hb.out h1)
    clear h1
    go_wp2_with (refine load_row_g (by rfl) 25 _ rfl _ rfl _ _ _ hU.out Tryz.underlying25 rfl G'.1 ?_)
    refine (V'.out _).mono ?_
    rintro e w1 ⟨rfl, h1⟩
    replace hb := hide (bel_next hb.out h1)
    clear h1
    go_wp2_with fail
    refine (awake _ (by first | exact HT.out.below hb.out | exact HT.out.below (Hid.out (by assumption)))).mono ?_
    rintro e w1 ⟨rfl, h1⟩
    replace hb := hide (bel_next hb.out h1)
    clear h1
    go_wp2
    go_ret
    exact ⟨rfl, hb.out⟩
  have hp := of_decide_eq_true hv
  have hp' := of_decide_eq_true hv'
  have Ff := hide (fun w hT => tf_.Format std so hd dst dof st en w hT hp)
  have Fu := hide (fun w hT => tf_.Format std' so' hd' dst' dof' st' en' w hT hp')
  simp only [vrule_c] at Ff Fu
  rw [hcs] at Ff
  rw [hcu] at Fu
  obtain ⟨S, hS, zS, bS⟩ : ∃ S : ByteArray, mkS (ruleF (byt std, so, hd, byt dst, dof, st, en)) = S ∧ S.size ≤ 1100 ∧ byt S = ruleF (byt std, so, hd, byt dst, dof, st, en) := ⟨_, rfl, by rw [size_mk]; exact ruleF_size hp, byt_mk _⟩
  obtain ⟨S', hS', zS', bS'⟩ : ∃ S : ByteArray, mkS (ruleF (byt std', so', hd', byt dst', dof', st', en')) = S ∧ S.size ≤ 1100 ∧ byt S = ruleF (byt std', so', hd', byt dst', dof', st', en') := ⟨_, rfl, by rw [size_mk]; exact ruleF_size hp', byt_mk _⟩
  rw [hS] at Ff
  rw [hS'] at Fu
  have P := hide (fun w => po_.Parse S w (by omega))
  rw [bS, rule_back hp] at P
  simp only [ptRes, vrule_c, mk_byt] at P
  rw [hcs] at P
  obtain ⟨bq, hq1, hq2⟩ : ∃ bq : Bool, (S.toList == S'.toList) = bq ∧ (bq = true ↔ (byt std, so, hd, byt dst, dof, st, en) = (byt std', so', hd', byt dst', dof', st', en')) := by
    by_cases h : S = S'
    · refine ⟨true, seq_eq h, ?_⟩
      have := (ruleF_inj hp hp').1 (by rw [← bS, ← bS', h])
      simp only [this]
    · refine ⟨false, seq_ne h, ?_⟩
      refine ⟨fun h2 => (by cases h2), fun h2 => absurd (byt_inj.1 (by rw [bS, bS', h2])) h⟩
  have q := rule_eq2 std so hd dst dof st en std' so' hd' dst' dof' st' en' bq hq2
  have qn := rule_ne_self std so hd dst dof st en
  rw [hcs, hcu] at q
  rw [hcs] at qn
  have e2 : cs[2]? = some (.bool hd) := by rw [← hcs]; rfl
  clear hq2 hS hS' bS bS' hv hv' hp' hcu
  replace hcs := hide hcs
  go_enter Tryz.func4, Tryz.ntmps4
  go_wp2_with fail
  refine (awake _ (by first | exact HT.out.below hb.out | exact HT.out.below (Hid.out (by assumption)))).mono ?_
  rintro e w1 ⟨rfl, h1⟩
  replace hB := hide (hB.out.below h1)
  replace hU := hide (hU.out.below h1)
  replace hb := hide (bel_next hb.out h1)
  clear h1
  go_wp2_with (refine load_row_g (by rfl) 25 _ rfl _ rfl _ _ _ hB.out Tryz.underlying25 rfl G.1 ?_)
  refine (V.out _).mono ?_
  rintro e w1 ⟨rfl, h1⟩
  replace hB := hide (hB.out.below h1)
  replace hU := hide (hU.out.below h1)
  replace hb := hide (bel_next hb.out h1)
  clear h1
  go_wp2_with (refine load_row_g (by rfl) 25 _ rfl _ rfl _ _ _ hU.out Tryz.underlying25 rfl G'.1 ?_)
  refine (V'.out _).mono ?_
  rintro e w1 ⟨rfl, h1⟩
  replace hB := hide (hB.out.below h1)
  replace hU := hide (hU.out.below h1)
  replace hb := hide (bel_next hb.out h1)
  clear h1
  go_wp2_with (refine load_row_g (by rfl) 25 _ rfl _ rfl _ _ _ hB.out Tryz.underlying25 rfl G.1 ?_)
  refine (Ff.out _ (by first | exact HT.out.below hb.out | exact HT.out.below (Hid.out (by assumption)))).mono ?_
  rintro e w1 ⟨rfl, h1⟩
  replace hB := hide (hB.out.below h1)
  replace hU := hide (hU.out.below h1)
  replace hb := hide (bel_next hb.out h1)
  clear h1
  go_wp2_with fail
  refine (P.out _).mono ?_
  rintro e w1 ⟨rfl, h1⟩
  replace hB := hide (hB.out.below h1)
  replace hU := hide (hU.out.below h1)
  replace hb := hide (bel_next hb.out h1)
  clear h1
  have l1 := hB.out.lt
  have l2 := hU.out.lt
  have b6 := hide (Ro.new w1 cs 25)
  replace hB := hide (hB.out.alloc (.cells cs 25))
  replace hU := hide (hU.out.alloc (.cells cs 25))
  replace hb := hide (bl_alloc hb.out (.cells cs 25))
  go_upto_region 5 with (refine wpList_store_row rfl 25 _ _ rfl _ _ rfl rfl _ _ (heap_alloc_last _ _) G.1 (by rw [G.2.1]; rfl) G.2.2 ?_; rw [World.setRow_alloc_new])
  generalize w1.heap.size = g6 at *
  generalize w1.alloc (.cells cs 25) = u1 at *
  refine wp_region_held_drew (S := fun w' => Hid (Ro w' w.heap.size cs 25) ∧ Hid (Ro w' (w.heap.size + 1) cu 25) ∧ Hid (Ro w' g6 cs 25) ∧ Hid (Below w.heap.size w w')) (by kernel_rfl) (⟨hB, hU, b6, hide (bl_drew hb.out)⟩) (fun hHeld => ?_)
  refine wpAnyH_takeD (i := 0) (d := some 34) (v := ?_) rfl rfl (by kernel_rfl) (by kernel_rfl) (by kernel_rfl) (fun _ _ _ h => h) (Or.inl ⟨by rfl, ?_⟩) (by assumption) ?_
  rotate_left
  · ((intro w hSw; go_simp) <;> with_reducible rfl)
  try simp only [Act.put, List.setIfInBounds_toArray, List.set_cons_zero, List.set_cons_succ]
  refine wpAnyH_takeD (i := 1) (d := some 35) (v := ?_) rfl rfl (by kernel_rfl) (by kernel_rfl) (by kernel_rfl) (fun _ _ _ h => h) (Or.inl ⟨by rfl, ?_⟩) (by assumption) ?_
  rotate_left
  · ((intro w hSw; go_simp) <;> with_reducible rfl)
  try simp only [Act.put, List.setIfInBounds_toArray, List.set_cons_zero, List.set_cons_succ]
  refine wpAnyH_takeD (i := 2) (d := some 36) (v := ?_) rfl rfl (by kernel_rfl) (by kernel_rfl) (by kernel_rfl) (fun _ _ _ h => h) (Or.inl ⟨by rfl, ?_⟩) (by assumption) ?_
  rotate_left
  · ((intro w hSw; go_simp) <;> with_reducible rfl)
  try simp only [Act.put, List.setIfInBounds_toArray, List.set_cons_zero, List.set_cons_succ]
  refine wpAnyH_takeD (i := 3) (d := some 37) rfl rfl (by kernel_rfl) (by kernel_rfl) (by kernel_rfl) (fun _ _ _ h => h) (yieldsIf_load_row (by rfl) 25 _ rfl g6 rfl 25 cs _ (fun w hw => hw.2.2.1.out) Tryz.underlying25 rfl G.1) (by assumption) ?_
  try simp only [Act.put, List.setIfInBounds_toArray, List.set_cons_zero, List.set_cons_succ]
  refine wpAnyH_takeD (i := 4) (d := some 38) rfl rfl (by kernel_rfl) (by kernel_rfl) (by kernel_rfl) (fun _ _ _ h => h) (yieldsIf_load_row (by rfl) 25 _ rfl w.heap.size rfl 25 cs _ (fun w hw => hw.1.out) Tryz.underlying25 rfl G.1) (by assumption) ?_
  try simp only [Act.put, List.setIfInBounds_toArray, List.set_cons_zero, List.set_cons_succ]
  refine wpAnyH_takeD (i := 5) (d := some 39) (v := ?_) rfl rfl (by kernel_rfl) (by kernel_rfl) (by kernel_rfl) (fun _ _ _ h => h) (Or.inl ⟨by rfl, ?_⟩) (by assumption) ?_
  rotate_left
  · ((intro w hSw; go_simp) <;> with_reducible rfl)
  try simp only [Act.put, List.setIfInBounds_toArray, List.set_cons_zero, List.set_cons_succ]
  refine wpAnyH_takeD (i := 6) (d := some 40) (v := ?_) rfl rfl (by kernel_rfl) (by kernel_rfl) (by kernel_rfl) (fun _ _ _ h => h) (Or.inl ⟨by rfl, ?_⟩) (by assumption) ?_
  rotate_left
  · ((intro w hSw; go_simp) <;> with_reducible rfl)
  try simp only [Act.put, List.setIfInBounds_toArray, List.set_cons_zero, List.set_cons_succ]
  refine wpAnyH_takeD (i := 7) (d := some 41) (v := ?_) rfl rfl (by kernel_rfl) (by kernel_rfl) (by kernel_rfl) (fun _ _ _ h => h) (Or.inl ⟨by rfl, ?_⟩) (by assumption) ?_
  rotate_left
  · ((intro w hSw; go_simp) <;> with_reducible rfl)
  try simp only [Act.put, List.setIfInBounds_toArray, List.set_cons_zero, List.set_cons_succ]
  refine wpAnyH_takeD (i := 8) (d := some 42) (v := ?_) rfl rfl (by kernel_rfl) (by kernel_rfl) (by kernel_rfl) (fun _ _ _ h => h) (Or.inl ⟨by rfl, ?_⟩) (by assumption) ?_
  rotate_left
  · ((intro w hSw; go_simp) <;> with_reducible rfl)
  try simp only [Act.put, List.setIfInBounds_toArray, List.set_cons_zero, List.set_cons_succ]
  refine wpAnyH_takeD (i := 9) (d := some 43) rfl rfl (by kernel_rfl) (by kernel_rfl) (by kernel_rfl) (fun _ _ _ h => h) (yieldsIf_load_row (by rfl) 25 _ rfl (w.heap.size + 1) rfl 25 cu _ (fun w hw => hw.2.1.out) Tryz.underlying25 rfl G'.1) (by assumption) ?_
  try simp only [Act.put, List.setIfInBounds_toArray, List.set_cons_zero, List.set_cons_succ]
  refine wpAnyH_takeD (i := 12) (d := some 46) rfl rfl (by kernel_rfl) (by kernel_rfl) (by kernel_rfl) (fun _ _ _ h => h) (yieldsIf_load_row (by rfl) 25 _ rfl w.heap.size rfl 25 cs _ (fun w hw => hw.1.out) Tryz.underlying25 rfl G.1) (by assumption) ?_
  try simp only [Act.put, List.setIfInBounds_toArray, List.set_cons_zero, List.set_cons_succ]
  refine wpAnyH_takeD (i := 13) (d := some 47) rfl rfl (by kernel_rfl) (by kernel_rfl) (by kernel_rfl) (fun _ _ _ h => h) (yieldsIf_load_row (by rfl) 25 _ rfl (w.heap.size + 1) rfl 25 cu _ (fun w hw => hw.2.1.out) Tryz.underlying25 rfl G'.1) (by assumption) ?_
  try simp only [Act.put, List.setIfInBounds_toArray, List.set_cons_zero, List.set_cons_succ]
  refine wpAnyH_takeD (i := 14) (d := some 48) (v := ?_) rfl rfl (by kernel_rfl) (by kernel_rfl) (by kernel_rfl) (fun _ _ _ h => h) (Or.inl ⟨by rfl, ?_⟩) (by assumption) ?_
  rotate_left
  · ((intro w hSw; go_simp) <;> with_reducible rfl)
  try simp only [Act.put, List.setIfInBounds_toArray, List.set_cons_zero, List.set_cons_succ]
  refine wpAnyH_ready (rs := [10]) (by kernel_rfl) (by simp) ?_
  refine AllReadyH.cons rfl (fun K hK => ?_) (AllReadyH.nil)
  · go_simp
    refine (Fu.out _ (HT.out.below hHeld.2.2.2.out)).mono ?_
    rintro e w6 ⟨rfl, h1'⟩
    refine hK.out _ _ (⟨hide (hHeld.1.out.below h1'), hide (hHeld.2.1.out.below h1'), hide (hHeld.2.2.1.out.below h1'), hide (bel_next hHeld.2.2.2.out h1')⟩) (fun hHeld => ?_)
    clear hK K h1'
    try simp only [Act.put, List.setIfInBounds_toArray, List.set_cons_zero, List.set_cons_succ]
    refine wpAnyH_takeD (i := 11) (d := some 45) (v := ?_) rfl rfl (by kernel_rfl) (by kernel_rfl) (by kernel_rfl) (fun _ _ _ h => h) (Or.inl ⟨by rfl, ?_⟩) (by assumption) ?_
    rotate_left
    · ((intro w hSw; go_simp) <;> with_reducible rfl)
    try simp only [Act.put, List.setIfInBounds_toArray, List.set_cons_zero, List.set_cons_succ]
    refine wpAnyH_takeD (i := 15) (d := some 49) (v := ?_) rfl rfl (by kernel_rfl) (by kernel_rfl) (by kernel_rfl) (fun _ _ _ h => h) (Or.inl ⟨by rfl, ?_⟩) (by assumption) ?_
    rotate_left
    · ((intro w hSw; go_simp) <;> with_reducible rfl)
    try simp only [Act.put, List.setIfInBounds_toArray, List.set_cons_zero, List.set_cons_succ]
    refine wpAnyH_takeD (i := 16) (d := some 50) (v := ?_) rfl rfl (by kernel_rfl) (by kernel_rfl) (by kernel_rfl) (fun _ _ _ h => h) (Or.inl ⟨by rfl, ?_⟩) (by assumption) ?_
    rotate_left
    · ((intro w hSw; go_simp) <;> with_reducible rfl)
    try simp only [Act.put, List.setIfInBounds_toArray, List.set_cons_zero, List.set_cons_succ]
    refine wpAnyH_done (by kernel_rfl) ?_ _
    obtain ⟨hB2, _, _, hb2⟩ := hHeld
    clear hB hU b6 hb V V' Ff Fu P q qn hq1
    cases hd
    · have y2 := (ro_cf hB2.out 2 _ e2).1
      go_wp2
      go_ret
      exact ⟨rfl, hb2.out⟩
    · have y2 := (ro_cf hB2.out 2 _ e2).1
      have hst : rdOk st := by have := hp.2.2; simp only [if_true] at this; exact this.2.2.1
      have DS := hide (fun w hT => tf_.Day st w hT hst)
      unfold vday at DS
      obtain ⟨SS, hss, zs, bs⟩ := dstr_ hst
      rw [← hss] at DS
      have PD := hide (fun w => po_.Day SS w (by omega))
      have hback := day_back (tail := []) hst (.inl rfl)
      rw [List.append_nil] at hback
      rw [bs, hback] at PD
      have hln : (dayC st).length = SS.size := by rw [← bs, len_byt]
      rw [hln] at PD
      simp only [ptDayRes, vday] at PD
      have f5 : cs[5]? = some (.int .i64 st.1) ∧ cs[6]? = some (.int .i64 st.2.1) ∧ cs[7]? = some (.int .i64 st.2.2.1) ∧ cs[8]? = some (.int .i64 st.2.2.2.1) ∧ cs[9]? = some (.int .i64 st.2.2.2.2.1) ∧ cs[10]? = some (.int .i64 st.2.2.2.2.2) := by rw [← hcs.out]; exact ⟨rfl, rfl, rfl, rfl, rfl, rfl⟩
      obtain ⟨g5, g6', g7, g8, g9, g10⟩ := f5
      clear hss bs hback hln hp hst
      obtain ⟨a0, _⟩ := ro_cf hB2.out 5 _ g5
      obtain ⟨a1, _⟩ := ro_cf hB2.out 6 _ g6'
      obtain ⟨a2, _⟩ := ro_cf hB2.out 7 _ g7
      obtain ⟨a3, _⟩ := ro_cf hB2.out 8 _ g8
      obtain ⟨a4, _⟩ := ro_cf hB2.out 9 _ g9
      obtain ⟨a5, _⟩ := ro_cf hB2.out 10 _ g10
      go_wp2_with fail
      refine (DS.out _ (HT.out.below hb2.out)).mono ?_
      rintro e w7 ⟨rfl, h1⟩
      clear a0 a1 a2 a3 a4 a5 y2
      replace hB2 := hide (hB2.out.below h1)
      replace hb2 := hide (bel_next hb2.out h1)
      clear h1
      go_wp2_with fail
      refine (PD.out _).mono ?_
      rintro e w8 ⟨rfl, h1⟩
      replace hB2 := hide (hB2.out.below h1)
      replace hb2 := hide (bel_next hb2.out h1)
      clear h1
      go_upto_region 11 with fail
      replace hB2 := hide (hB2.out.alloc (.cells #[.int .i64 st.1, .int .i64 st.2.1, .int .i64 st.2.2.1, .int .i64 st.2.2.2.1, .int .i64 st.2.2.2.2.1, .int .i64 st.2.2.2.2.2] 23))
      have hN := hide (Ro.new w8 #[.int .i64 st.1, .int .i64 st.2.1, .int .i64 st.2.2.1, .int .i64 st.2.2.2.1, .int .i64 st.2.2.2.2.1, .int .i64 st.2.2.2.2.2] 23)
      replace hb2 := hide (bl_alloc hb2.out (.cells #[.int .i64 st.1, .int .i64 st.2.1, .int .i64 st.2.2.1, .int .i64 st.2.2.2.1, .int .i64 st.2.2.2.2.1, .int .i64 st.2.2.2.2.2] 23))
      generalize w8.heap.size = g8' at *
      generalize w8.alloc (.cells #[.int .i64 st.1, .int .i64 st.2.1, .int .i64 st.2.2.1, .int .i64 st.2.2.2.1, .int .i64 st.2.2.2.2.1, .int .i64 st.2.2.2.2.2] 23) = w9 at *
      obtain ⟨a0, _⟩ := ro_cf hB2.out 5 _ g5
      obtain ⟨a1, _⟩ := ro_cf hB2.out 6 _ g6'
      obtain ⟨a2, _⟩ := ro_cf hB2.out 7 _ g7
      obtain ⟨a3, _⟩ := ro_cf hB2.out 8 _ g8
      obtain ⟨a4, _⟩ := ro_cf hB2.out 9 _ g9
      obtain ⟨a5, _⟩ := ro_cf hB2.out 10 _ g10
      obtain ⟨c0, _⟩ := ro_cf hN.out 0 _ rfl
      obtain ⟨c1, _⟩ := ro_cf hN.out 1 _ rfl
      obtain ⟨c2, _⟩ := ro_cf hN.out 2 _ rfl
      obtain ⟨c3, _⟩ := ro_cf hN.out 3 _ rfl
      obtain ⟨c4, _⟩ := ro_cf hN.out 4 _ rfl
      obtain ⟨c5, _⟩ := ro_cf hN.out 5 _ rfl
      go_wp2
      go_ret
      exact ⟨rfl, hb2.out⟩
theorem roundTrip (std : ByteArray) (so : Int) (hd : Bool) (dst : ByteArray) (dof K1 D1 M1 W1 V1 T1 K2 D2 M2 W2 V2 T2 : Int) (std' : ByteArray) (so' : Int) (hd' : Bool) (dst' : ByteArray) (dof' K1' D1' M1' W1' V1' T1' K2' D2' M2' W2' V2' T2' : Int) (w : World) (hT : Tp w) (hs : std.size ≤ maxLen) (wso : (Lit.int .i64 so).wf = true) (ht : dst.size ≤ maxLen) (wdof : (Lit.int .i64 dof).wf = true) (wK1 : (Lit.int .i64 K1).wf = true) (wD1 : (Lit.int .i64 D1).wf = true) (wM1 : (Lit.int .i64 M1).wf = true) (wW1 : (Lit.int .i64 W1).wf = true) (wV1 : (Lit.int .i64 V1).wf = true) (wT1 : (Lit.int .i64 T1).wf = true) (wK2 : (Lit.int .i64 K2).wf = true) (wD2 : (Lit.int .i64 D2).wf = true) (wM2 : (Lit.int .i64 M2).wf = true) (wW2 : (Lit.int .i64 W2).wf = true) (wV2 : (Lit.int .i64 V2).wf = true) (wT2 : (Lit.int .i64 T2).wf = true) (hs' : std'.size ≤ maxLen) (wso' : (Lit.int .i64 so').wf = true) (ht' : dst'.size ≤ maxLen) (wdof' : (Lit.int .i64 dof').wf = true) (wK1' : (Lit.int .i64 K1').wf = true) (wD1' : (Lit.int .i64 D1').wf = true) (wM1' : (Lit.int .i64 M1').wf = true) (wW1' : (Lit.int .i64 W1').wf = true) (wV1' : (Lit.int .i64 V1').wf = true) (wT1' : (Lit.int .i64 T1').wf = true) (wK2' : (Lit.int .i64 K2').wf = true) (wD2' : (Lit.int .i64 D2').wf = true) (wM2' : (Lit.int .i64 M2').wf = true) (wW2' : (Lit.int .i64 W2').wf = true) (wV2' : (Lit.int .i64 V2').wf = true) (wT2' : (Lit.int .i64 T2').wf = true) : Calls Tryz.prog 4 #[.agg #[.string std, .int .i64 so, .bool hd, .string dst, .int .i64 dof, .int .i64 K1, .int .i64 D1, .int .i64 M1, .int .i64 W1, .int .i64 V1, .int .i64 T1, .int .i64 K2, .int .i64 D2, .int .i64 M2, .int .i64 W2, .int .i64 V2, .int .i64 T2], .agg #[.string std', .int .i64 so', .bool hd', .string dst', .int .i64 dof', .int .i64 K1', .int .i64 D1', .int .i64 M1', .int .i64 W1', .int .i64 V1', .int .i64 T1', .int .i64 K2', .int .i64 D2', .int .i64 M2', .int .i64 W2', .int .i64 V2', .int .i64 T2']] w fun e w' => e = .returned (.bool true) ∧ Below w.heap.size w w' := rtC std so hd dst dof (K1, D1, M1, W1, V1, T1) (K2, D2, M2, W2, V2, T2) std' so' hd' dst' dof' (K1', D1', M1', W1', V1', T1') (K2', D2', M2', W2', V2', T2') w hT hs ht hs' ht'
end l10_
end Go.Proofs.YtjeclakdgmjbjaaGreatDoor

/-
  CONTRACTS OF posixtz.Day and posixtz.Parse, of the code that landed at 120e3cd. Condition: a text of at most 1,000,000 bytes.
-/
import Derived.Test.YtjjmkbofddbnnaaGreatDoorPs7
namespace Go.Proofs.YtjjmkbofddbnnaaGreatDoor
open Go.ChangeShapes Go.WideShapes Go.ChangeAt Go.RowKit
set_option linter.unusedVariables false
set_option maxRecDepth 100000
/-- the cells of a rule as Parse gives it. -/
def rrc (r : PR) : Array Value := crule (mkS r.1) r.2.1 r.2.2.1 (mkS r.2.2.2.1) r.2.2.2.2.1 r.2.2.2.2.2.1 r.2.2.2.2.2.2
namespace po_
theorem Day (s : ByteArray) (w : World) (hs : s.size ≤ 1000000) : Calls Tryz.prog 13 #[.string s] w fun e w' => e = .returned (ptDayRes (ptDay (byt s))) ∧ Below w.heap.size w w' := by
  rcases h : ptDay (byt s) with _ | ⟨d, n⟩
  · exact Day_no s w hs h
  · exact Day_yes s d n w hs h
theorem rule_ (s : ByteArray) (b : Nat) (w : World) (hs : s.size ≤ 1000000) (hp : Pz w b s ((0 : Nat) : Int)) :
    match ptParse (byt s) with
    | .error x => Calls Tryz.prog 19 #[.pointer (some ⟨b, 0, none⟩)] w fun e w' => e = fail (x : Int) ∧ But b w w'
    | .ok r => Calls Tryz.prog 19 #[.pointer (some ⟨b, 0, none⟩)] w fun e w' => e = .returned (.agg (rrc r)) ∧ But b w w' := by
  have ln : (byt s).length = s.size := len_byt s
  unfold ptParse
  rcases h1 : tnParse (byt s) with _ | ⟨std, n⟩
  · exact rule_0 s ⟨#[]⟩ ⟨#[]⟩ 0 0 b 0 0 0 0 0 0 0 0 0 0 0 0 0 0 0 0 0 w hs hp (des_no hs (by omega) (k := 0) h1)
  have a1 := tnParse_some h1
  have H0 : ∀ w, Pz w b s ((0 : Nat) : Int) → Calls Tryz.prog 28 #[.pointer (some ⟨b, 0, none⟩)] w fun e w' => e = .returned (.string (mkS std)) ∧ Pz w' b s (n : Int) ∧ But b w w' := by
    have := des_yes (b := b) hs (k := 0) (by omega) (q := std) (n := n) h1
    rwa [Nat.zero_add] at this
  have hn : n ≤ s.size := by omega
  dsimp only
  rcases h2 : hmsParse ((byt s).drop n) with _ | ⟨v, m⟩
  · exact rule_1 s (mkS std) ⟨#[]⟩ 0 0 b 0 n 0 0 n 0 0 0 0 0 0 0 0 0 0 0 0 w hs hp H0 (off_no hs hn (.inl h2))
  dsimp only
  by_cases ho : offOk v
  rotate_left
  · rw [if_neg ho]
    exact rule_1 s (mkS std) ⟨#[]⟩ 0 0 b 0 n 0 0 n 0 0 0 0 0 0 0 0 0 0 0 0 w hs hp H0 (off_no hs hn (.inr ⟨v, m, h2, ho⟩))
  rw [if_pos ho]
  have hv : -89999 ≤ v ∧ v ≤ 89999 := ho
  have a2 := parse_prefix h2
  rw [List.length_drop] at a2
  have H1 := off_yes (b := b) hs hn h2 ho
  have hm : n + m ≤ s.size := by omega
  by_cases he : n + m = (byt s).length
  · rw [if_pos he]
    refine (rule_s s (mkS std) ⟨#[]⟩ (-v) 0 b 0 n (n + m) 0 0 0 0 0 0 0 0 0 0 0 0 0 0 w hs hp H0 H1 hm (rst_end (by omega))).mono ?_
    rintro e w' ⟨h, _, hb⟩
    exact ⟨h, hb⟩
  rw [if_neg he]
  have hX := rst_more (s := s) (k := n + m) (by omega)
  rcases h3 : tnParse ((byt s).drop (n + m)) with _ | ⟨dst, n2⟩
  · refine rule_df s (mkS std) ⟨#[]⟩ (-v) 0 b 0 n (n + m) 0 (n + m) 0 0 0 0 0 0 0 0 0 0 0 0 w hs hp H0 H1 hm hX ?_
    exact fun g w hp hg hne => dayl_0 s (mkS std) ⟨#[]⟩ (-v) 0 b g (n + m) 0 0 0 0 0 0 (n + m) 0 0 0 0 0 0 0 0 0 0 0 0 w hp hg hne (des_no hs hm h3)
  have a3 := tnParse_some h3
  rw [List.length_drop] at a3
  have G0 := des_yes (b := b) hs hm h3
  have hn2 : n + m + n2 ≤ s.size := by omega
  dsimp only
  -- the days, whatever the offset is
  have fin : ∀ (dof : Int) (k2 : Nat) (hk2 : k2 ≤ s.size) (hi : -9223372036854775808 ≤ dof ∧ dof < 9223372036854775808)
      (G1 : ∀ w, Pz w b s ((n + m + n2 : Nat) : Int) → Calls Tryz.prog 42 #[.pointer (some ⟨b, 0, none⟩), .int .i64 (-v)] w fun e w' => e = .returned (.int .i64 dof) ∧ Pz w' b s (k2 : Int) ∧ But b w w'),
      match ptDays (byt s) k2 std (-v) dst dof with
      | .error x => Calls Tryz.prog 19 #[.pointer (some ⟨b, 0, none⟩)] w fun e w' => e = fail (x : Int) ∧ But b w w'
      | .ok r => Calls Tryz.prog 19 #[.pointer (some ⟨b, 0, none⟩)] w fun e w' => e = .returned (.agg (rrc r)) ∧ But b w w' := by
    intro dof k2 hk2 hi G1
    rcases days_ s (mkS std) (mkS dst) (-v) dof b (n + m) (n + m + n2) k2 hs hk2 std dst G0 G1 with ⟨x, hD, hE⟩ | ⟨⟨s1, s2, s3, s4, s5, s6⟩, ⟨e1, e2, e3, e4, e5, e6⟩, c, hD, hc, hE⟩
    · rw [hE]
      exact rule_df s (mkS std) ⟨#[]⟩ (-v) 0 b 0 n (n + m) 0 x 0 0 0 0 0 0 0 0 0 0 0 0 w hs hp H0 H1 hm hX hD
    · rw [hE]
      by_cases hq : c = s.size ∧ offOk dof
      · rw [if_pos hq]
        refine (rule_y s (mkS std) (mkS dst) (-v) dof b 0 n (n + m) c 0 s1 s2 s3 s4 s5 s6 e1 e2 e3 e4 e5 e6 w hs hp H0 H1 hm hX hD hc hi (rst_end hq.1) (decide_eq_true hq.2)).mono ?_
        rintro e w' ⟨h, _, hb⟩
        exact ⟨h, hb⟩
      · rw [if_neg hq]
        by_cases hz : c = s.size
        · exact rule_n s (mkS std) (mkS dst) (-v) dof b 0 n (n + m) c 0 s1 s2 s3 s4 s5 s6 e1 e2 e3 e4 e5 e6 w hs hp H0 H1 hm hX hD hc hi (rst_end hz) (decide_eq_false fun h => hq ⟨hz, h⟩)
        · exact rule_r s (mkS std) (mkS dst) (-v) dof b 0 n (n + m) c 0 s1 s2 s3 s4 s5 s6 e1 e2 e3 e4 e5 e6 w hs hp H0 H1 hm hX hD hc (rst_more (by omega))
  rcases h4 : hmsParse ((byt s).drop (n + m + n2)) with _ | ⟨v2, m2⟩
  · exact fin (-v + 3600) (n + m + n2) hn2 (by omega) (fun w hp => dsto_d s (n + m + n2) b (-v) w hs hn2 hp h4 (by unfold offOk; omega))
  have a4 := parse_prefix h4
  rw [List.length_drop] at a4
  dsimp only
  by_cases ho2 : offOk v2
  · rw [if_pos ho2]
    have hv2 : -89999 ≤ v2 ∧ v2 ≤ 89999 := ho2
    exact fin (-v2) (n + m + n2 + m2) (by omega) (by omega) (fun w hp => dsto_y s (n + m + n2) b (-v) v2 m2 w hs hn2 hp h4 ho2)
  · rw [if_neg ho2]
    refine rule_df s (mkS std) ⟨#[]⟩ (-v) 0 b 0 n (n + m) 0 (n + m + n2) 0 0 0 0 0 0 0 0 0 0 0 0 w hs hp H0 H1 hm hX ?_
    exact fun g w hp hg hne => dayl_1 s (mkS std) (mkS dst) (-v) 0 b g (n + m) (n + m + n2) 0 0 0 0 0 (n + m + n2) 0 0 0 0 0 0 0 0 0 0 0 0 w hp hg hne G0 (fun w hp => dsto_n s (n + m + n2) b (-v) v2 m2 w hs hn2 hp h4 ho2)
def z17 : Array Value := #[.string ⟨#[]⟩, .int .i64 0, .bool false, .string ⟨#[]⟩, .int .i64 0, .int .i64 0, .int .i64 0, .int .i64 0, .int .i64 0, .int .i64 0, .int .i64 0, .int .i64 0, .int .i64 0, .int .i64 0, .int .i64 0, .int .i64 0, .int .i64 0]
theorem gr_rrc (r : PR) : Gr Tryz.prog 29 17 (rrc r) := gr_rule _ _ _ _ _ _ _
theorem z17_r : z17 = crule ⟨#[]⟩ 0 false ⟨#[]⟩ 0 rd0 rd0 := rfl
theorem parse1_yes (s : ByteArray) (r : PR) (b g p : Nat) (w : World) (hs : s.size ≤ 1000000) (hp : Pz w b s ((0 : Nat) : Int)) (hv : Bx w p [.pointer (some ⟨b, 0, none⟩)]) (hg : Ro w g z17 29) (h1 : b ≠ g) (h2 : p ≠ b) (h3 : p ≠ g) (hd : ptParse (byt s) = .ok r) :
    Calls Tryz.prog 18 #[.pointer (some ⟨p, 0, none⟩), .pointer (some ⟨g, 0, none⟩)] w fun e w' => e = .returned (.tuple #[]) ∧ Ro w' g (rrc r) 29 ∧ But2 b g w w' := by
  have D := hide (fun w hp => rule_ s b w hs hp)
  simp only [hd] at D
  have G := gr_rrc r
  have P := hide hp
  have hD := hide hg
  have c0 := hv.2.1 0 _ rfl
  have e0 : z17.size = (rrc r).size := rfl
  generalize rrc r = cs at *
  generalize z17 = z at *
  clear hp hg hv hd
  go_enter Tryz.func18, Tryz.ntmps18
  go_wp2_with fail
  refine (D.out _ P.out).mono ?_
  rintro e w1 ⟨rfl, hb⟩
  replace hD := hide (hD.out.but hb (by omega))
  clear c0 P
  go_wp2_with (refine wpList_store_row rfl 29 _ _ rfl _ _ rfl rfl _ _ hD.out G.1 e0 G.2.2 ?_)
  go_end0
  exact ⟨rfl, ro_row hD.out _, (But2.one hb).row (.inr (.inl rfl)) _⟩
theorem parse1_no (s : ByteArray) (x b g p : Nat) (w : World) (hs : s.size ≤ 1000000) (hp : Pz w b s ((0 : Nat) : Int)) (hv : Bx w p [.pointer (some ⟨b, 0, none⟩)]) (hd : ptParse (byt s) = .error x) :
    Calls Tryz.prog 18 #[.pointer (some ⟨p, 0, none⟩), .pointer (some ⟨g, 0, none⟩)] w fun e w' => e = fail (x : Int) ∧ But2 b g w w' := by
  have D := hide (fun w hp => rule_ s b w hs hp)
  simp only [hd] at D
  have P := hide hp
  have c0 := hv.2.1 0 _ rfl
  clear hp hv hd
  go_enter Tryz.func18, Tryz.ntmps18
  go_wp2_with fail
  refine (D.out _ P.out).mono ?_
  rintro e w1 ⟨rfl, hb⟩
  unfold fail
  go_wp2
  exact ⟨rfl, rfl, But2.one hb⟩
set_option maxHeartbeats 2000000 in
theorem Parse_no (s : ByteArray) (x : Nat) (w : World) (hs : s.size ≤ 1000000) (hd : ptParse (byt s) = .error x) : Calls Tryz.prog 10 #[.string s] w fun e w' => e = .returned (.tuple #[.agg z17, .int .i64 14, .int .i64 x]) ∧ Below w.heap.size w w' := by
  have hmf : ∀ (fn : Fn) (first cap : Array Value) (w : World), (Instr.makeFunc fn first cap).run Tryz.prog w = .ok (.func fn first cap) w := fun _ _ _ _ => rfl
  obtain ⟨W, hW⟩ : ∃ W, W = (((w.alloc (.cells z17 29)).alloc (.cells #[.string s, .int .i64 0] 44)).alloc (.cells #[.pointer (some ⟨w.heap.size + 1, 0, none⟩)] 42)).alloc (.cells z17 29) := ⟨_, rfl⟩
  obtain ⟨h1, h2, h3, h4, h5, h6⟩ := laid4 w _ _ _ _ s W hW
  have A := attempt_at 18 (w.heap.size + 1) (w.heap.size + 1 + 1 + 1) x #[.pointer (some ⟨w.heap.size + 1 + 1, 0, none⟩), .pointer (some ⟨w.heap.size + 1 + 1 + 1, 0, none⟩)] W (enters Tryz.func18 (by kernel_rfl) (by kernel_rfl))
    (fun w1 hb => parse1_no s x _ _ _ w1 hs (h2.below hb) (h3.below hb) hd) (by omega) (by omega)
  have G : Gr Tryz.prog 29 17 #[.string ⟨#[]⟩, .int .i64 0, .bool false, .string ⟨#[]⟩, .int .i64 0, .int .i64 0, .int .i64 0, .int .i64 0, .int .i64 0, .int .i64 0, .int .i64 0, .int .i64 0, .int .i64 0, .int .i64 0, .int .i64 0, .int .i64 0, .int .i64 0] := gr_rule ⟨#[]⟩ 0 false ⟨#[]⟩ 0 rd0 rd0
  replace A := hide A
  replace h5 := hide h5
  clear h2 h3 h4 hd
  simp only [z17] at hW
  go_enter Tryz.func10, Tryz.ntmps10
  go_wp2_with fail
  rw [← hW]
  refine A.out.mono ?_
  rintro e w1 ⟨rfl, hb⟩
  have hR := hide (h5.out.but2 hb (by omega) (by omega))
  have hB := hide (h1.trans (hb.below (B := w.heap.size) (by omega) (by omega) (by omega)))
  clear h5 hb h1 A hW h6
  have hz : z17.size = (#[.string ⟨#[]⟩, .int .i64 0, .bool false, .string ⟨#[]⟩, .int .i64 0, .int .i64 0, .int .i64 0, .int .i64 0, .int .i64 0, .int .i64 0, .int .i64 0, .int .i64 0, .int .i64 0, .int .i64 0, .int .i64 0, .int .i64 0, .int .i64 0] : Array Value).size := rfl
  go_wp2_with (refine wpList_store_row rfl 29 _ _ rfl _ _ rfl rfl _ _ hR.out G.1 hz G.2.2 ?_)
  have hl := ((ro_row hR.out #[.string ⟨#[]⟩, .int .i64 0, .bool false, .string ⟨#[]⟩, .int .i64 0, .int .i64 0, .int .i64 0, .int .i64 0, .int .i64 0, .int .i64 0, .int .i64 0, .int .i64 0, .int .i64 0, .int .i64 0, .int .i64 0, .int .i64 0, .int .i64 0]).load 29 _ Tryz.underlying29 rfl G.1).2
  exact bodyPost_ret (results_c12 (v := .agg #[.string ⟨#[]⟩, .int .i64 0, .bool false, .string ⟨#[]⟩, .int .i64 0, .int .i64 0, .int .i64 0, .int .i64 0, .int .i64 0, .int .i64 0, .int .i64 0, .int .i64 0, .int .i64 0, .int .i64 0, .int .i64 0, .int .i64 0, .int .i64 0]) (x := .int .i64 14) (y := .int .i64 (x : Int)) Tryz.results10 rfl rfl rfl hl) rfl ⟨rfl, bl_row hB.out (Nat.le_refl _) _⟩
set_option maxHeartbeats 2000000 in
theorem Parse_yes (s : ByteArray) (r : PR) (w : World) (hs : s.size ≤ 1000000) (hd : ptParse (byt s) = .ok r) : Calls Tryz.prog 10 #[.string s] w fun e w' => e = .returned (.tuple #[.agg (rrc r), .int .i64 0, .int .i64 0]) ∧ Below w.heap.size w w' := by
  have hmf : ∀ (fn : Fn) (first cap : Array Value) (w : World), (Instr.makeFunc fn first cap).run Tryz.prog w = .ok (.func fn first cap) w := fun _ _ _ _ => rfl
  obtain ⟨W, hW⟩ : ∃ W, W = (((w.alloc (.cells z17 29)).alloc (.cells #[.string s, .int .i64 0] 44)).alloc (.cells #[.pointer (some ⟨w.heap.size + 1, 0, none⟩)] 42)).alloc (.cells z17 29) := ⟨_, rfl⟩
  obtain ⟨h1, h2, h3, h4, h5, h6⟩ := laid4 w _ _ _ _ s W hW
  have A := attempt_yes 18 (w.heap.size + 1) (w.heap.size + 1 + 1 + 1) #[.pointer (some ⟨w.heap.size + 1 + 1, 0, none⟩), .pointer (some ⟨w.heap.size + 1 + 1 + 1, 0, none⟩)] (fun w' => Ro w' (w.heap.size + 1 + 1 + 1) (rrc r) 29) W (enters Tryz.func18 (by kernel_rfl) (by kernel_rfl))
    (fun w1 hb => parse1_yes s r _ _ _ w1 hs (h2.below hb) (h3.below hb) (h4.below hb) (by omega) (by omega) (by omega) hd) (fun w2 q o v hq h => ro_set_ne h (by omega) o v) (by omega) (by omega)
  have G := gr_rrc r
  have zs : z17.size = (rrc r).size := rfl
  generalize rrc r = cs at *
  replace A := hide A
  replace h5 := hide h5
  clear h2 h3 h4 hd
  obtain ⟨z, hz⟩ : ∃ z, z = z17 := ⟨_, rfl⟩
  rw [← hz] at h5 zs
  simp only [z17] at hW
  clear hz
  go_enter Tryz.func10, Tryz.ntmps10
  go_wp2_with fail
  rw [← hW]
  refine A.out.mono ?_
  rintro e w1 ⟨rfl, hD, hb⟩
  have hR := hide (h5.out.but2 hb (by omega) (by omega))
  replace hD := hide hD
  have hB := hide (h1.trans (hb.below (B := w.heap.size) (by omega) (by omega) (by omega)))
  clear h5 hb h1 A hW h6
  go_wp2_with (first | (refine wpList_store_row rfl 29 _ _ rfl _ _ rfl rfl _ _ hR.out G.1 zs G.2.2 ?_) | (refine load_row_g (by rfl) 29 _ rfl _ rfl _ _ _ hD.out Tryz.underlying29 rfl G.1 ?_))
  have hl := ((ro_row hR.out cs).load 29 _ Tryz.underlying29 rfl G.1).2
  exact bodyPost_ret (results_c12 Tryz.results10 rfl rfl rfl hl) rfl ⟨rfl, bl_row hB.out (Nat.le_refl _) _⟩
theorem Parse (s : ByteArray) (w : World) (hs : s.size ≤ 1000000) : Calls Tryz.prog 10 #[.string s] w fun e w' => e = .returned (ptRes (ptParse (byt s))) ∧ Below w.heap.size w w' := by
  rcases h : ptParse (byt s) with x | r
  · exact Parse_no s x w hs h
  · exact Parse_yes s r w hs h
end po_
end Go.Proofs.YtjjmkbofddbnnaaGreatDoor

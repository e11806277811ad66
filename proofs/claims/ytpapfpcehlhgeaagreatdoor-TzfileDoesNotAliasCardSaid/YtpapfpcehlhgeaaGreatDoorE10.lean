/-
  Texts of mine in one file: Po. Their conditions stand in the theorems.
-/
import Derived.Test.YtpapfpcehlhgeaaGreatDoorE09
namespace Go.Proofs.YtpapfpcehlhgeaaGreatDoor
set_option linter.unusedVariables false
set_option linter.unusedSimpArgs false
set_option maxRecDepth 100000
set_option maxHeartbeats 16000000
open Go.ChangeShapes Go.WideShapes Go.ChangeAt Go.RowKit
theorem But2.set' {b g q:Nat} {w w1:World} (h:But2 b g w w1) (hq:q=b∨q=g∨w.heap.size≤q) (o:Nat) (v:Value):But2 b g w (w1.setCell ⟨q,o,none⟩ v) :=
 ⟨h.os,h.tape,h.output,by have:=h.size;simpa [World.setCell] using this,fun k hk hn hm=>(Below.heap_setCell w1 ⟨q,o,none⟩ v k (by show k≠q;omega)).trans (h.block k hk hn hm)⟩
namespace po_
theorem dsto_d (s:ByteArray) (k b:Nat) (so:Int) (w:World) (hs:s.size≤1000000) (hk:k≤s.size) (hp:Pz w b s k) (h:hmsParse (rst s k)=none) (ho:offOk so) :
 Calls Tryz.prog 240 #[.pointer (some ⟨b,0,none⟩),.int .i64 so] w fun e w'=>e=.returned (.int .i64 (so+3600))∧Pz w' b s k∧But b w w':=by
 have R:=hide (fun w hp=>rest_ s k b w hs hk hp)
 have T:=hide (fun w=>hm_.Parse (mkS (rst s k)) w (by have:=rst_size s k;omega))
 simp only [byt_mk,h,hmsRes] at T
 have P:=hide hp
 have hv:-89999≤so∧so≤89999:=ho
 obtain ⟨hv0,hv1⟩:=hv
 have e1:IntKind.i64.wrap (so+3600)=so+3600:=by rw [IntKind.wrap_i64];omega
 clear hp h ho
 go_enter Tryz.func240,Tryz.ntmps240
 go_wp2_with fail
 refine (R.out _ P.out).mono ?_
 rintro e w1 ⟨rfl,hb⟩
 have P1:=hide (P.out.below hb)
 go_wp2_with fail
 refine (T.out _).mono ?_
 rintro e w2 ⟨rfl,hb2⟩
 have P2:=hide (P1.out.below hb2)
 have B2:=hide ((But.of (b:=b) hb).next hb2)
 clear P P1 hb hb2 R T
 go_wp2
 go_ret
 exact ⟨rfl,P2.out,B2.out⟩
theorem dsto_y (s:ByteArray) (k b:Nat) (so v:Int) (n:Nat) (w:World) (hs:s.size≤1000000) (hk:k≤s.size) (hp:Pz w b s k) (h:hmsParse (rst s k)=some (v,n)) (ho:offOk v) :
 Calls Tryz.prog 240 #[.pointer (some ⟨b,0,none⟩),.int .i64 so] w fun e w'=>e=.returned (.int .i64 (-v))∧Pz w' b s ((k+n:Nat):Int)∧But b w w':=by
 have R:=hide (fun w hp=>rest_ s k b w hs hk hp)
 have O:=hide (fun w hp=>offset_yes s k b v n w hs hk hp h ho)
 have T:=hide (fun w=>hm_.Parse (mkS (rst s k)) w (by have:=rst_size s k;omega))
 simp only [byt_mk,h,hmsRes] at T
 have P:=hide hp
 clear hp h ho
 go_enter Tryz.func240,Tryz.ntmps240
 go_wp2_with fail
 refine (R.out _ P.out).mono ?_
 rintro e w1 ⟨rfl,hb⟩
 have P1:=hide (P.out.below hb)
 go_wp2_with fail
 refine (T.out _).mono ?_
 rintro e w2 ⟨rfl,hb2⟩
 have P2:=hide (P1.out.below hb2)
 have B2:=hide ((But.of (b:=b) hb).next hb2)
 clear P P1 hb hb2 R T
 go_wp2_with fail
 refine (O.out _ P2.out).mono ?_
 rintro e w3 ⟨rfl,p3,h3⟩
 replace B2:=hide (B2.out.trans h3)
 have P3:=hide (p3.cast (show _=((k+n:Nat):Int) by omega))
 clear P2 h3 p3
 go_wp2
 go_ret
 exact ⟨rfl,P3.out,B2.out⟩
theorem dsto_n (s:ByteArray) (k b:Nat) (so v:Int) (n:Nat) (w:World) (hs:s.size≤1000000) (hk:k≤s.size) (hp:Pz w b s k) (h:hmsParse (rst s k)=some (v,n)) (ho:¬ offOk v) :
 Calls Tryz.prog 240 #[.pointer (some ⟨b,0,none⟩),.int .i64 so] w fun e w'=>e=fail k∧But b w w':=by
 have R:=hide (fun w hp=>rest_ s k b w hs hk hp)
 have O:=hide (fun w hp=>offset_no s k b w hs hk hp (.inr ⟨v,n,h,ho⟩))
 have T:=hide (fun w=>hm_.Parse (mkS (rst s k)) w (by have:=rst_size s k;omega))
 simp only [byt_mk,h,hmsRes] at T
 have P:=hide hp
 clear hp h ho
 go_enter Tryz.func240,Tryz.ntmps240
 go_wp2_with fail
 refine (R.out _ P.out).mono ?_
 rintro e w1 ⟨rfl,hb⟩
 have P1:=hide (P.out.below hb)
 go_wp2_with fail
 refine (T.out _).mono ?_
 rintro e w2 ⟨rfl,hb2⟩
 have P2:=hide (P1.out.below hb2)
 have B2:=hide ((But.of (b:=b) hb).next hb2)
 clear P P1 hb hb2 R T
 go_wp2_with fail
 refine (O.out _ P2.out).mono ?_
 rintro e w3 ⟨rfl,h3⟩
 unfold fail
 go_wp2
 exact ⟨rfl,rfl,B2.out.next h3⟩
theorem change_yes (s:ByteArray) (k b:Nat) (w:World) (hs:s.size≤1000000) (hk:k≤s.size) (hp:Pz w b s k) (a c d z f v:Int) (n:Nat) (h:ptDay (rst s k)=some ((a,c,d,z,f,v),n)) (hn:k+n≤s.size) :
 Calls Tryz.prog 242 #[.pointer (some ⟨b,0,none⟩)] w fun e w'=>e=.returned (.agg #[.int .i64 a,.int .i64 c,.int .i64 d,.int .i64 z,.int .i64 f,.int .i64 v])∧Pz w' b s ((k+n:Nat):Int)∧But b w w':=by
 have R:=hide (fun w hp=>rest_ s k b w hs hk hp)
 have D:=hide (fun w=>Day_yes (mkS (rst s k)) (a,c,d,z,f,v) n w (by have:=rst_size s k;omega) (by rw [byt_mk];exact h))
 simp only [vday] at D
 have hbl:b<w.heap.size:=hp.1
 have hR:=hide (Ro.new w zA6 81)
 have hB:=hide ((But.refl b w).alloc (.cells zA6 81))
 have P:=hide (hp.below (bl_new w (.cells zA6 81)))
 clear hp h
 go_enter Tryz.func242,Tryz.ntmps242
 go_wp2_with fail
 generalize w.alloc (.cells zA6 81)=v0 at *
 go_wp2_with fail
 refine (R.out _ P.out).mono ?_
 rintro e v1 ⟨rfl,h1⟩
 replace P:=hide (P.out.below h1)
 replace hR:=hide (hR.out.below h1)
 replace hB:=hide (hB.out.next h1)
 clear h1
 go_wp2_with fail
 refine (D.out _).mono ?_
 rintro e v2 ⟨rfl,h1⟩
 replace P:=hide (P.out.below h1)
 replace hR:=hide (hR.out.below h1)
 replace hB:=hide (hB.out.next h1)
 clear h1
 have hg:w.heap.size<v2.heap.size:=hR.out.lt
 have hD:=hide (Ro.new v2 #[.int .i64 a,.int .i64 c,.int .i64 d,.int .i64 z,.int .i64 f,.int .i64 v] 81)
 replace hR:=hide (hR.out.alloc (.cells #[.int .i64 a,.int .i64 c,.int .i64 d,.int .i64 z,.int .i64 f,.int .i64 v] 81))
 replace hB:=hide (hB.out.alloc (.cells #[.int .i64 a,.int .i64 c,.int .i64 d,.int .i64 z,.int .i64 f,.int .i64 v] 81))
 replace P:=hide (P.out.below (bl_new v2 (.cells #[.int .i64 a,.int .i64 c,.int .i64 d,.int .i64 z,.int .i64 f,.int .i64 v] 81)))
 go_wp2_with (refine wpList_store_row rfl 81 _ _ rfl _ _ rfl rfl _ _ (heap_alloc_last _ _) (by kernel_rfl) rfl (by simp [Value.oneCell']) ?_;rw [World.setRow_alloc_new])
 generalize v2.alloc (.cells #[.int .i64 a,.int .i64 c,.int .i64 d,.int .i64 z,.int .i64 f,.int .i64 v] 81)=v9 at *
 generalize v2.heap.size=g1 at *
 refine (require_yes b _).mono ?_
 rintro e v10 ⟨rfl,rfl⟩
 obtain ⟨h0,h1,h2,h3⟩:=P.out.cells
 have e1:IntKind.i64.wrap ((k:Int)+n)=(k:Int)+n:=by rw [IntKind.wrap_i64];omega
 go_upto_region 4 with fail
 clear h0 h1 h2 h3
 replace P:=hide ((P.out.set ((k:Int)+n)).cast (show _=((k+n:Nat):Int) by omega))
 replace hR:=hide (ro_set_ne hR.out (show b≠w.heap.size by omega) 1 (.int .i64 ((k:Int)+n)))
 replace hD:=hide (ro_set_ne hD.out (show b≠g1 by omega) 1 (.int .i64 ((k:Int)+n)))
 replace hB:=hide (hB.out.set (o:=1) (.int .i64 ((k:Int)+n)))
 generalize v9.setCell ⟨b,1,none⟩ (.int .i64 ((k:Int)+n))=v11 at *
 have G:Gr Tryz.prog 81 6 #[.int .i64 a,.int .i64 c,.int .i64 d,.int .i64 z,.int .i64 f,.int .i64 v]:=⟨by kernel_rfl,rfl,by simp [Value.oneCell']⟩
 go_wp2_with (first | (refine wpList_store_row rfl 81 _ _ rfl _ _ rfl rfl _ _ hR.out G.1 rfl G.2.2 ?_) | (refine load_row_g (by rfl) 81 _ rfl _ rfl _ _ _ hD.out Tryz.underlying81 rfl G.1 ?_))
 have hl:=((ro_row hR.out #[.int .i64 a,.int .i64 c,.int .i64 d,.int .i64 z,.int .i64 f,.int .i64 v]).load 81 _ Tryz.underlying81 rfl G.1).2
 exact bodyPost_ret (results_c Tryz.results242 rfl hl) rfl ⟨rfl,P.out.row (by omega) _,hB.out.row (by omega) _⟩
theorem change_no (s:ByteArray) (k b:Nat) (w:World) (hs:s.size≤1000000) (hk:k≤s.size) (hp:Pz w b s k) (h:ptDay (rst s k)=none) :
 Calls Tryz.prog 242 #[.pointer (some ⟨b,0,none⟩)] w fun e w'=>e=fail k∧But b w w':=by
 have R:=hide (fun w hp=>rest_ s k b w hs hk hp)
 have D:=hide (fun w=>Day_no (mkS (rst s k)) w (by have:=rst_size s k;omega) (by rw [byt_mk];exact h))
 simp only [vday,rd0] at D
 have hbl:b<w.heap.size:=hp.1
 have hR:=hide (Ro.new w zA6 81)
 have hB:=hide ((But.refl b w).alloc (.cells zA6 81))
 have P:=hide (hp.below (bl_new w (.cells zA6 81)))
 clear hp h
 go_enter Tryz.func242,Tryz.ntmps242
 go_wp2_with fail
 generalize w.alloc (.cells zA6 81)=v0 at *
 go_wp2_with fail
 refine (R.out _ P.out).mono ?_
 rintro e v1 ⟨rfl,h1⟩
 replace P:=hide (P.out.below h1)
 replace hR:=hide (hR.out.below h1)
 replace hB:=hide (hB.out.next h1)
 clear h1
 go_wp2_with fail
 refine (D.out _).mono ?_
 rintro e v2 ⟨rfl,h1⟩
 replace P:=hide (P.out.below h1)
 replace hR:=hide (hR.out.below h1)
 replace hB:=hide (hB.out.next h1)
 clear h1
 have hg:w.heap.size<v2.heap.size:=hR.out.lt
 have hD:=hide (Ro.new v2 zA6 81)
 replace hR:=hide (hR.out.alloc (.cells zA6 81))
 replace hB:=hide (hB.out.alloc (.cells zA6 81))
 replace P:=hide (P.out.below (bl_new v2 (.cells zA6 81)))
 go_wp2_with (refine wpList_store_row rfl 81 _ _ rfl _ _ rfl rfl _ _ (heap_alloc_last _ _) (by kernel_rfl) rfl (by simp [Value.oneCell']) ?_;rw [World.setRow_alloc_new])
 generalize v2.alloc (.cells zA6 81)=v9 at *
 generalize v2.heap.size=g1 at *
 refine (require_no s k b _ P.out).mono ?_
 rintro e v ⟨rfl,rfl⟩
 unfold fail
 go_wp2
 exact ⟨rfl,rfl,hB.out⟩
theorem dayl_ok (s std dst:ByteArray) (so dof:Int) (b g k0 k1 k2 k3 k4 k5 k6 qq:Nat) (st1 st2 st3 st4 st5 st6 en1 en2 en3 en4 en5 en6:Int) (w:World) (hp:Pz w b s (k0:Int)) (hg:Ro w g #[.string std,.int .i64 so,.bool false,.string ⟨#[]⟩,.int .i64 0,.int .i64 0,.int .i64 0,.int .i64 0,.int .i64 0,.int .i64 0,.int .i64 0,.int .i64 0,.int .i64 0,.int .i64 0,.int .i64 0,.int .i64 0,.int .i64 0] 83) (hbg:b≠g)
 (H0:(∀ w,Pz w b s ((k0:Nat):Int)→Calls Tryz.prog 213 #[.pointer (some ⟨b,0,none⟩)] w fun e w'=>e=.returned (.string dst)∧Pz w' b s ((k1:Nat):Int)∧But b w w'))
 (H1:(∀ w,Pz w b s ((k1:Nat):Int)→Calls Tryz.prog 240 #[.pointer (some ⟨b,0,none⟩),.int .i64 so] w fun e w'=>e=.returned (.int .i64 dof)∧Pz w' b s ((k2:Nat):Int)∧But b w w'))
 (H2:(∀ w,Pz w b s ((k2:Nat):Int)→Calls Tryz.prog 241 #[.pointer (some ⟨b,0,none⟩),.string ⟨#[44]⟩] w fun e w'=>e=.returned (.tuple #[])∧Pz w' b s ((k3:Nat):Int)∧But b w w'))
 (H3:(∀ w,Pz w b s ((k3:Nat):Int)→Calls Tryz.prog 242 #[.pointer (some ⟨b,0,none⟩)] w fun e w'=>e=.returned (.agg #[.int .i64 st1,.int .i64 st2,.int .i64 st3,.int .i64 st4,.int .i64 st5,.int .i64 st6])∧Pz w' b s ((k4:Nat):Int)∧But b w w'))
 (H4:(∀ w,Pz w b s ((k4:Nat):Int)→Calls Tryz.prog 241 #[.pointer (some ⟨b,0,none⟩),.string ⟨#[44]⟩] w fun e w'=>e=.returned (.tuple #[])∧Pz w' b s ((k5:Nat):Int)∧But b w w'))
 (H5:(∀ w,Pz w b s ((k5:Nat):Int)→Calls Tryz.prog 242 #[.pointer (some ⟨b,0,none⟩)] w fun e w'=>e=.returned (.agg #[.int .i64 en1,.int .i64 en2,.int .i64 en3,.int .i64 en4,.int .i64 en5,.int .i64 en6])∧Pz w' b s ((k6:Nat):Int)∧But b w w')) :
 Calls Tryz.prog 216 #[.pointer (some ⟨b,0,none⟩),.pointer (some ⟨g,0,none⟩)] w fun e w'=>e=.returned (.tuple #[])∧Pz w' b s (k6:Int)∧Ro w' g #[.string std,.int .i64 so,.bool true,.string dst,.int .i64 dof,.int .i64 st1,.int .i64 st2,.int .i64 st3,.int .i64 st4,.int .i64 st5,.int .i64 st6,.int .i64 en1,.int .i64 en2,.int .i64 en3,.int .i64 en4,.int .i64 en5,.int .i64 en6] 83∧But2 b g w w':=by
 replace H0:=hide H0
 replace H1:=hide H1
 replace H2:=hide H2
 replace H3:=hide H3
 replace H4:=hide H4
 replace H5:=hide H5
 have hne:b≠g:=hbg
 have P:=hide hp
 have hG:=hide hg
 have hB:=hide (But2.refl b g w)
 clear hp hg hbg
 go_enter Tryz.func216,Tryz.ntmps216
 obtain ⟨p2,q2⟩:=ro_cf hG.out 2 _ rfl
 go_upto_region 1 with fail
 clear p2 q2
 replace hG:=hide (show Ro (w.setCell ⟨g,2,none⟩ (.bool true)) g #[.string std,.int .i64 so,.bool true,.string ⟨#[]⟩,.int .i64 0,.int .i64 0,.int .i64 0,.int .i64 0,.int .i64 0,.int .i64 0,.int .i64 0,.int .i64 0,.int .i64 0,.int .i64 0,.int .i64 0,.int .i64 0,.int .i64 0] 83 from ro_set hG.out 2 (.bool true))
 replace P:=hide (show Pz (w.setCell ⟨g,2,none⟩ (.bool true)) b s _ from P.out.set_ne 2 (show g≠b by omega) (.bool true))
 replace hB:=hide (show But2 b g w (w.setCell ⟨g,2,none⟩ (.bool true)) from hB.out.set' (.inr (.inl rfl)) 2 (.bool true))
 generalize w.setCell ⟨g,2,none⟩ (.bool true)=v1 at *
 go_wp2_with fail
 refine (H0.out _ P.out).mono ?_
 rintro e v2 ⟨rfl,p1,h1⟩
 replace hG:=hide (hG.out.but h1 (by omega))
 replace hB:=hide (hB.out.trans (But2.one h1))
 replace P:=hide p1
 clear h1 p1
 obtain ⟨p3,q3⟩:=ro_cf hG.out 3 _ rfl
 go_upto_region 2 with fail
 clear p3 q3
 replace hG:=hide (show Ro (v2.setCell ⟨g,3,none⟩ (.string dst)) g #[.string std,.int .i64 so,.bool true,.string dst,.int .i64 0,.int .i64 0,.int .i64 0,.int .i64 0,.int .i64 0,.int .i64 0,.int .i64 0,.int .i64 0,.int .i64 0,.int .i64 0,.int .i64 0,.int .i64 0,.int .i64 0] 83 from ro_set hG.out 3 (.string dst))
 replace P:=hide (show Pz (v2.setCell ⟨g,3,none⟩ (.string dst)) b s _ from P.out.set_ne 3 (show g≠b by omega) (.string dst))
 replace hB:=hide (show But2 b g w (v2.setCell ⟨g,3,none⟩ (.string dst)) from hB.out.set' (.inr (.inl rfl)) 3 (.string dst))
 generalize v2.setCell ⟨g,3,none⟩ (.string dst)=v3 at *
 obtain ⟨p1,q1⟩:=ro_cf hG.out 1 _ rfl
 go_wp2_with fail
 refine (H1.out _ P.out).mono ?_
 rintro e v4 ⟨rfl,p1,h1⟩
 replace hG:=hide (hG.out.but h1 (by omega))
 replace hB:=hide (hB.out.trans (But2.one h1))
 replace P:=hide p1
 clear h1 p1
 clear p1 q1
 obtain ⟨p4,q4⟩:=ro_cf hG.out 4 _ rfl
 go_upto_region 3 with fail
 clear p4 q4
 replace hG:=hide (show Ro (v4.setCell ⟨g,4,none⟩ (.int .i64 dof)) g #[.string std,.int .i64 so,.bool true,.string dst,.int .i64 dof,.int .i64 0,.int .i64 0,.int .i64 0,.int .i64 0,.int .i64 0,.int .i64 0,.int .i64 0,.int .i64 0,.int .i64 0,.int .i64 0,.int .i64 0,.int .i64 0] 83 from ro_set hG.out 4 (.int .i64 dof))
 replace P:=hide (show Pz (v4.setCell ⟨g,4,none⟩ (.int .i64 dof)) b s _ from P.out.set_ne 4 (show g≠b by omega) (.int .i64 dof))
 replace hB:=hide (show But2 b g w (v4.setCell ⟨g,4,none⟩ (.int .i64 dof)) from hB.out.set' (.inr (.inl rfl)) 4 (.int .i64 dof))
 generalize v4.setCell ⟨g,4,none⟩ (.int .i64 dof)=v5 at *
 go_wp2_with fail
 refine (H2.out _ P.out).mono ?_
 rintro e v6 ⟨rfl,p1,h1⟩
 replace hG:=hide (hG.out.but h1 (by omega))
 replace hB:=hide (hB.out.trans (But2.one h1))
 replace P:=hide p1
 clear h1 p1
 go_wp2_with fail
 refine (H3.out _ P.out).mono ?_
 rintro e v7 ⟨rfl,p1,h1⟩
 replace hG:=hide (hG.out.but h1 (by omega))
 replace hB:=hide (hB.out.trans (But2.one h1))
 replace P:=hide p1
 clear h1 p1
 obtain ⟨p5,q5⟩:=ro_cf hG.out 5 _ rfl
 obtain ⟨p6,q6⟩:=ro_cf hG.out 6 _ rfl
 obtain ⟨p7,q7⟩:=ro_cf hG.out 7 _ rfl
 obtain ⟨p8,q8⟩:=ro_cf hG.out 8 _ rfl
 obtain ⟨p9,q9⟩:=ro_cf hG.out 9 _ rfl
 obtain ⟨p10,q10⟩:=ro_cf hG.out 10 _ rfl
 go_upto_region 5 with fail
 clear p5 q5 p6 q6 p7 q7 p8 q8 p9 q9 p10 q10
 replace hG:=hide (show Ro (v7.setCell ⟨g,5,none⟩ (.int .i64 st1)) g #[.string std,.int .i64 so,.bool true,.string dst,.int .i64 dof,.int .i64 st1,.int .i64 0,.int .i64 0,.int .i64 0,.int .i64 0,.int .i64 0,.int .i64 0,.int .i64 0,.int .i64 0,.int .i64 0,.int .i64 0,.int .i64 0] 83 from ro_set hG.out 5 (.int .i64 st1))
 replace P:=hide (show Pz (v7.setCell ⟨g,5,none⟩ (.int .i64 st1)) b s _ from P.out.set_ne 5 (show g≠b by omega) (.int .i64 st1))
 replace hB:=hide (show But2 b g w (v7.setCell ⟨g,5,none⟩ (.int .i64 st1)) from hB.out.set' (.inr (.inl rfl)) 5 (.int .i64 st1))
 generalize v7.setCell ⟨g,5,none⟩ (.int .i64 st1)=v8 at *
 replace hG:=hide (show Ro (v8.setCell ⟨g,6,none⟩ (.int .i64 st2)) g #[.string std,.int .i64 so,.bool true,.string dst,.int .i64 dof,.int .i64 st1,.int .i64 st2,.int .i64 0,.int .i64 0,.int .i64 0,.int .i64 0,.int .i64 0,.int .i64 0,.int .i64 0,.int .i64 0,.int .i64 0,.int .i64 0] 83 from ro_set hG.out 6 (.int .i64 st2))
 replace P:=hide (show Pz (v8.setCell ⟨g,6,none⟩ (.int .i64 st2)) b s _ from P.out.set_ne 6 (show g≠b by omega) (.int .i64 st2))
 replace hB:=hide (show But2 b g w (v8.setCell ⟨g,6,none⟩ (.int .i64 st2)) from hB.out.set' (.inr (.inl rfl)) 6 (.int .i64 st2))
 generalize v8.setCell ⟨g,6,none⟩ (.int .i64 st2)=v9 at *
 replace hG:=hide (show Ro (v9.setCell ⟨g,7,none⟩ (.int .i64 st3)) g #[.string std,.int .i64 so,.bool true,.string dst,.int .i64 dof,.int .i64 st1,.int .i64 st2,.int .i64 st3,.int .i64 0,.int .i64 0,.int .i64 0,.int .i64 0,.int .i64 0,.int .i64 0,.int .i64 0,.int .i64 0,.int .i64 0] 83 from ro_set hG.out 7 (.int .i64 st3))
 replace P:=hide (show Pz (v9.setCell ⟨g,7,none⟩ (.int .i64 st3)) b s _ from P.out.set_ne 7 (show g≠b by omega) (.int .i64 st3))
 replace hB:=hide (show But2 b g w (v9.setCell ⟨g,7,none⟩ (.int .i64 st3)) from hB.out.set' (.inr (.inl rfl)) 7 (.int .i64 st3))
 generalize v9.setCell ⟨g,7,none⟩ (.int .i64 st3)=v10 at *
 replace hG:=hide (show Ro (v10.setCell ⟨g,8,none⟩ (.int .i64 st4)) g #[.string std,.int .i64 so,.bool true,.string dst,.int .i64 dof,.int .i64 st1,.int .i64 st2,.int .i64 st3,.int .i64 st4,.int .i64 0,.int .i64 0,.int .i64 0,.int .i64 0,.int .i64 0,.int .i64 0,.int .i64 0,.int .i64 0] 83 from ro_set hG.out 8 (.int .i64 st4))
 replace P:=hide (show Pz (v10.setCell ⟨g,8,none⟩ (.int .i64 st4)) b s _ from P.out.set_ne 8 (show g≠b by omega) (.int .i64 st4))
 replace hB:=hide (show But2 b g w (v10.setCell ⟨g,8,none⟩ (.int .i64 st4)) from hB.out.set' (.inr (.inl rfl)) 8 (.int .i64 st4))
 generalize v10.setCell ⟨g,8,none⟩ (.int .i64 st4)=v11 at *
 replace hG:=hide (show Ro (v11.setCell ⟨g,9,none⟩ (.int .i64 st5)) g #[.string std,.int .i64 so,.bool true,.string dst,.int .i64 dof,.int .i64 st1,.int .i64 st2,.int .i64 st3,.int .i64 st4,.int .i64 st5,.int .i64 0,.int .i64 0,.int .i64 0,.int .i64 0,.int .i64 0,.int .i64 0,.int .i64 0] 83 from ro_set hG.out 9 (.int .i64 st5))
 replace P:=hide (show Pz (v11.setCell ⟨g,9,none⟩ (.int .i64 st5)) b s _ from P.out.set_ne 9 (show g≠b by omega) (.int .i64 st5))
 replace hB:=hide (show But2 b g w (v11.setCell ⟨g,9,none⟩ (.int .i64 st5)) from hB.out.set' (.inr (.inl rfl)) 9 (.int .i64 st5))
 generalize v11.setCell ⟨g,9,none⟩ (.int .i64 st5)=v12 at *
 replace hG:=hide (show Ro (v12.setCell ⟨g,10,none⟩ (.int .i64 st6)) g #[.string std,.int .i64 so,.bool true,.string dst,.int .i64 dof,.int .i64 st1,.int .i64 st2,.int .i64 st3,.int .i64 st4,.int .i64 st5,.int .i64 st6,.int .i64 0,.int .i64 0,.int .i64 0,.int .i64 0,.int .i64 0,.int .i64 0] 83 from ro_set hG.out 10 (.int .i64 st6))
 replace P:=hide (show Pz (v12.setCell ⟨g,10,none⟩ (.int .i64 st6)) b s _ from P.out.set_ne 10 (show g≠b by omega) (.int .i64 st6))
 replace hB:=hide (show But2 b g w (v12.setCell ⟨g,10,none⟩ (.int .i64 st6)) from hB.out.set' (.inr (.inl rfl)) 10 (.int .i64 st6))
 generalize v12.setCell ⟨g,10,none⟩ (.int .i64 st6)=v13 at *
 go_wp2_with fail
 refine (H4.out _ P.out).mono ?_
 rintro e v14 ⟨rfl,p1,h1⟩
 replace hG:=hide (hG.out.but h1 (by omega))
 replace hB:=hide (hB.out.trans (But2.one h1))
 replace P:=hide p1
 clear h1 p1
 go_wp2_with fail
 refine (H5.out _ P.out).mono ?_
 rintro e v15 ⟨rfl,p1,h1⟩
 replace hG:=hide (hG.out.but h1 (by omega))
 replace hB:=hide (hB.out.trans (But2.one h1))
 replace P:=hide p1
 clear h1 p1
 obtain ⟨p11,q11⟩:=ro_cf hG.out 11 _ rfl
 obtain ⟨p12,q12⟩:=ro_cf hG.out 12 _ rfl
 obtain ⟨p13,q13⟩:=ro_cf hG.out 13 _ rfl
 obtain ⟨p14,q14⟩:=ro_cf hG.out 14 _ rfl
 obtain ⟨p15,q15⟩:=ro_cf hG.out 15 _ rfl
 obtain ⟨p16,q16⟩:=ro_cf hG.out 16 _ rfl
 go_wp2_with fail
 clear p11 q11 p12 q12 p13 q13 p14 q14 p15 q15 p16 q16
 replace hG:=hide (show Ro (v15.setCell ⟨g,11,none⟩ (.int .i64 en1)) g #[.string std,.int .i64 so,.bool true,.string dst,.int .i64 dof,.int .i64 st1,.int .i64 st2,.int .i64 st3,.int .i64 st4,.int .i64 st5,.int .i64 st6,.int .i64 en1,.int .i64 0,.int .i64 0,.int .i64 0,.int .i64 0,.int .i64 0] 83 from ro_set hG.out 11 (.int .i64 en1))
 replace P:=hide (show Pz (v15.setCell ⟨g,11,none⟩ (.int .i64 en1)) b s _ from P.out.set_ne 11 (show g≠b by omega) (.int .i64 en1))
 replace hB:=hide (show But2 b g w (v15.setCell ⟨g,11,none⟩ (.int .i64 en1)) from hB.out.set' (.inr (.inl rfl)) 11 (.int .i64 en1))
 generalize v15.setCell ⟨g,11,none⟩ (.int .i64 en1)=v16 at *
 replace hG:=hide (show Ro (v16.setCell ⟨g,12,none⟩ (.int .i64 en2)) g #[.string std,.int .i64 so,.bool true,.string dst,.int .i64 dof,.int .i64 st1,.int .i64 st2,.int .i64 st3,.int .i64 st4,.int .i64 st5,.int .i64 st6,.int .i64 en1,.int .i64 en2,.int .i64 0,.int .i64 0,.int .i64 0,.int .i64 0] 83 from ro_set hG.out 12 (.int .i64 en2))
 replace P:=hide (show Pz (v16.setCell ⟨g,12,none⟩ (.int .i64 en2)) b s _ from P.out.set_ne 12 (show g≠b by omega) (.int .i64 en2))
 replace hB:=hide (show But2 b g w (v16.setCell ⟨g,12,none⟩ (.int .i64 en2)) from hB.out.set' (.inr (.inl rfl)) 12 (.int .i64 en2))
 generalize v16.setCell ⟨g,12,none⟩ (.int .i64 en2)=v17 at *
 replace hG:=hide (show Ro (v17.setCell ⟨g,13,none⟩ (.int .i64 en3)) g #[.string std,.int .i64 so,.bool true,.string dst,.int .i64 dof,.int .i64 st1,.int .i64 st2,.int .i64 st3,.int .i64 st4,.int .i64 st5,.int .i64 st6,.int .i64 en1,.int .i64 en2,.int .i64 en3,.int .i64 0,.int .i64 0,.int .i64 0] 83 from ro_set hG.out 13 (.int .i64 en3))
 replace P:=hide (show Pz (v17.setCell ⟨g,13,none⟩ (.int .i64 en3)) b s _ from P.out.set_ne 13 (show g≠b by omega) (.int .i64 en3))
 replace hB:=hide (show But2 b g w (v17.setCell ⟨g,13,none⟩ (.int .i64 en3)) from hB.out.set' (.inr (.inl rfl)) 13 (.int .i64 en3))
 generalize v17.setCell ⟨g,13,none⟩ (.int .i64 en3)=v18 at *
 replace hG:=hide (show Ro (v18.setCell ⟨g,14,none⟩ (.int .i64 en4)) g #[.string std,.int .i64 so,.bool true,.string dst,.int .i64 dof,.int .i64 st1,.int .i64 st2,.int .i64 st3,.int .i64 st4,.int .i64 st5,.int .i64 st6,.int .i64 en1,.int .i64 en2,.int .i64 en3,.int .i64 en4,.int .i64 0,.int .i64 0] 83 from ro_set hG.out 14 (.int .i64 en4))
 replace P:=hide (show Pz (v18.setCell ⟨g,14,none⟩ (.int .i64 en4)) b s _ from P.out.set_ne 14 (show g≠b by omega) (.int .i64 en4))
 replace hB:=hide (show But2 b g w (v18.setCell ⟨g,14,none⟩ (.int .i64 en4)) from hB.out.set' (.inr (.inl rfl)) 14 (.int .i64 en4))
 generalize v18.setCell ⟨g,14,none⟩ (.int .i64 en4)=v19 at *
 replace hG:=hide (show Ro (v19.setCell ⟨g,15,none⟩ (.int .i64 en5)) g #[.string std,.int .i64 so,.bool true,.string dst,.int .i64 dof,.int .i64 st1,.int .i64 st2,.int .i64 st3,.int .i64 st4,.int .i64 st5,.int .i64 st6,.int .i64 en1,.int .i64 en2,.int .i64 en3,.int .i64 en4,.int .i64 en5,.int .i64 0] 83 from ro_set hG.out 15 (.int .i64 en5))
 replace P:=hide (show Pz (v19.setCell ⟨g,15,none⟩ (.int .i64 en5)) b s _ from P.out.set_ne 15 (show g≠b by omega) (.int .i64 en5))
 replace hB:=hide (show But2 b g w (v19.setCell ⟨g,15,none⟩ (.int .i64 en5)) from hB.out.set' (.inr (.inl rfl)) 15 (.int .i64 en5))
 generalize v19.setCell ⟨g,15,none⟩ (.int .i64 en5)=v20 at *
 replace hG:=hide (show Ro (v20.setCell ⟨g,16,none⟩ (.int .i64 en6)) g #[.string std,.int .i64 so,.bool true,.string dst,.int .i64 dof,.int .i64 st1,.int .i64 st2,.int .i64 st3,.int .i64 st4,.int .i64 st5,.int .i64 st6,.int .i64 en1,.int .i64 en2,.int .i64 en3,.int .i64 en4,.int .i64 en5,.int .i64 en6] 83 from ro_set hG.out 16 (.int .i64 en6))
 replace P:=hide (show Pz (v20.setCell ⟨g,16,none⟩ (.int .i64 en6)) b s _ from P.out.set_ne 16 (show g≠b by omega) (.int .i64 en6))
 replace hB:=hide (show But2 b g w (v20.setCell ⟨g,16,none⟩ (.int .i64 en6)) from hB.out.set' (.inr (.inl rfl)) 16 (.int .i64 en6))
 generalize v20.setCell ⟨g,16,none⟩ (.int .i64 en6)=v21 at *
 go_end0
 exact ⟨rfl,P.out,hG.out,hB.out⟩
theorem dayl_0 (s std dst:ByteArray) (so dof:Int) (b g k0 k1 k2 k3 k4 k5 k6 qq:Nat) (st1 st2 st3 st4 st5 st6 en1 en2 en3 en4 en5 en6:Int) (w:World) (hp:Pz w b s (k0:Int)) (hg:Ro w g #[.string std,.int .i64 so,.bool false,.string ⟨#[]⟩,.int .i64 0,.int .i64 0,.int .i64 0,.int .i64 0,.int .i64 0,.int .i64 0,.int .i64 0,.int .i64 0,.int .i64 0,.int .i64 0,.int .i64 0,.int .i64 0,.int .i64 0] 83) (hbg:b≠g)
 (H0:(∀ w,Pz w b s ((k0:Nat):Int)→Calls Tryz.prog 213 #[.pointer (some ⟨b,0,none⟩)] w fun e w'=>e=fail ((qq:Nat):Int)∧But b w w')) :
 Calls Tryz.prog 216 #[.pointer (some ⟨b,0,none⟩),.pointer (some ⟨g,0,none⟩)] w fun e w'=>e=fail (qq:Int)∧But2 b g w w':=by
 replace H0:=hide H0
 have hne:b≠g:=hbg
 have P:=hide hp
 have hG:=hide hg
 have hB:=hide (But2.refl b g w)
 clear hp hg hbg
 go_enter Tryz.func216,Tryz.ntmps216
 obtain ⟨p2,q2⟩:=ro_cf hG.out 2 _ rfl
 go_upto_region 1 with fail
 clear p2 q2
 replace hG:=hide (show Ro (w.setCell ⟨g,2,none⟩ (.bool true)) g #[.string std,.int .i64 so,.bool true,.string ⟨#[]⟩,.int .i64 0,.int .i64 0,.int .i64 0,.int .i64 0,.int .i64 0,.int .i64 0,.int .i64 0,.int .i64 0,.int .i64 0,.int .i64 0,.int .i64 0,.int .i64 0,.int .i64 0] 83 from ro_set hG.out 2 (.bool true))
 replace P:=hide (show Pz (w.setCell ⟨g,2,none⟩ (.bool true)) b s _ from P.out.set_ne 2 (show g≠b by omega) (.bool true))
 replace hB:=hide (show But2 b g w (w.setCell ⟨g,2,none⟩ (.bool true)) from hB.out.set' (.inr (.inl rfl)) 2 (.bool true))
 generalize w.setCell ⟨g,2,none⟩ (.bool true)=v1 at *
 go_wp2_with fail
 refine (H0.out _ P.out).mono ?_
 rintro e v ⟨rfl,h1⟩
 unfold fail
 go_wp2
 exact ⟨rfl,rfl,hB.out.trans (But2.one h1)⟩
theorem dayl_1 (s std dst:ByteArray) (so dof:Int) (b g k0 k1 k2 k3 k4 k5 k6 qq:Nat) (st1 st2 st3 st4 st5 st6 en1 en2 en3 en4 en5 en6:Int) (w:World) (hp:Pz w b s (k0:Int)) (hg:Ro w g #[.string std,.int .i64 so,.bool false,.string ⟨#[]⟩,.int .i64 0,.int .i64 0,.int .i64 0,.int .i64 0,.int .i64 0,.int .i64 0,.int .i64 0,.int .i64 0,.int .i64 0,.int .i64 0,.int .i64 0,.int .i64 0,.int .i64 0] 83) (hbg:b≠g)
 (H0:(∀ w,Pz w b s ((k0:Nat):Int)→Calls Tryz.prog 213 #[.pointer (some ⟨b,0,none⟩)] w fun e w'=>e=.returned (.string dst)∧Pz w' b s ((k1:Nat):Int)∧But b w w'))
 (H1:(∀ w,Pz w b s ((k1:Nat):Int)→Calls Tryz.prog 240 #[.pointer (some ⟨b,0,none⟩),.int .i64 so] w fun e w'=>e=fail ((qq:Nat):Int)∧But b w w')) :
 Calls Tryz.prog 216 #[.pointer (some ⟨b,0,none⟩),.pointer (some ⟨g,0,none⟩)] w fun e w'=>e=fail (qq:Int)∧But2 b g w w':=by
 replace H0:=hide H0
 replace H1:=hide H1
 have hne:b≠g:=hbg
 have P:=hide hp
 have hG:=hide hg
 have hB:=hide (But2.refl b g w)
 clear hp hg hbg
 go_enter Tryz.func216,Tryz.ntmps216
 obtain ⟨p2,q2⟩:=ro_cf hG.out 2 _ rfl
 go_upto_region 1 with fail
 clear p2 q2
 replace hG:=hide (show Ro (w.setCell ⟨g,2,none⟩ (.bool true)) g #[.string std,.int .i64 so,.bool true,.string ⟨#[]⟩,.int .i64 0,.int .i64 0,.int .i64 0,.int .i64 0,.int .i64 0,.int .i64 0,.int .i64 0,.int .i64 0,.int .i64 0,.int .i64 0,.int .i64 0,.int .i64 0,.int .i64 0] 83 from ro_set hG.out 2 (.bool true))
 replace P:=hide (show Pz (w.setCell ⟨g,2,none⟩ (.bool true)) b s _ from P.out.set_ne 2 (show g≠b by omega) (.bool true))
 replace hB:=hide (show But2 b g w (w.setCell ⟨g,2,none⟩ (.bool true)) from hB.out.set' (.inr (.inl rfl)) 2 (.bool true))
 generalize w.setCell ⟨g,2,none⟩ (.bool true)=v1 at *
 go_wp2_with fail
 refine (H0.out _ P.out).mono ?_
 rintro e v2 ⟨rfl,p1,h1⟩
 replace hG:=hide (hG.out.but h1 (by omega))
 replace hB:=hide (hB.out.trans (But2.one h1))
 replace P:=hide p1
 clear h1 p1
 obtain ⟨p3,q3⟩:=ro_cf hG.out 3 _ rfl
 go_upto_region 2 with fail
 clear p3 q3
 replace hG:=hide (show Ro (v2.setCell ⟨g,3,none⟩ (.string dst)) g #[.string std,.int .i64 so,.bool true,.string dst,.int .i64 0,.int .i64 0,.int .i64 0,.int .i64 0,.int .i64 0,.int .i64 0,.int .i64 0,.int .i64 0,.int .i64 0,.int .i64 0,.int .i64 0,.int .i64 0,.int .i64 0] 83 from ro_set hG.out 3 (.string dst))
 replace P:=hide (show Pz (v2.setCell ⟨g,3,none⟩ (.string dst)) b s _ from P.out.set_ne 3 (show g≠b by omega) (.string dst))
 replace hB:=hide (show But2 b g w (v2.setCell ⟨g,3,none⟩ (.string dst)) from hB.out.set' (.inr (.inl rfl)) 3 (.string dst))
 generalize v2.setCell ⟨g,3,none⟩ (.string dst)=v3 at *
 obtain ⟨p1,q1⟩:=ro_cf hG.out 1 _ rfl
 go_wp2_with fail
 refine (H1.out _ P.out).mono ?_
 rintro e v ⟨rfl,h1⟩
 unfold fail
 go_wp2
 exact ⟨rfl,rfl,hB.out.trans (But2.one h1)⟩
theorem dayl_2 (s std dst:ByteArray) (so dof:Int) (b g k0 k1 k2 k3 k4 k5 k6 qq:Nat) (st1 st2 st3 st4 st5 st6 en1 en2 en3 en4 en5 en6:Int) (w:World) (hp:Pz w b s (k0:Int)) (hg:Ro w g #[.string std,.int .i64 so,.bool false,.string ⟨#[]⟩,.int .i64 0,.int .i64 0,.int .i64 0,.int .i64 0,.int .i64 0,.int .i64 0,.int .i64 0,.int .i64 0,.int .i64 0,.int .i64 0,.int .i64 0,.int .i64 0,.int .i64 0] 83) (hbg:b≠g)
 (H0:(∀ w,Pz w b s ((k0:Nat):Int)→Calls Tryz.prog 213 #[.pointer (some ⟨b,0,none⟩)] w fun e w'=>e=.returned (.string dst)∧Pz w' b s ((k1:Nat):Int)∧But b w w'))
 (H1:(∀ w,Pz w b s ((k1:Nat):Int)→Calls Tryz.prog 240 #[.pointer (some ⟨b,0,none⟩),.int .i64 so] w fun e w'=>e=.returned (.int .i64 dof)∧Pz w' b s ((k2:Nat):Int)∧But b w w'))
 (H2:(∀ w,Pz w b s ((k2:Nat):Int)→Calls Tryz.prog 241 #[.pointer (some ⟨b,0,none⟩),.string ⟨#[44]⟩] w fun e w'=>e=fail ((qq:Nat):Int)∧But b w w')) :
 Calls Tryz.prog 216 #[.pointer (some ⟨b,0,none⟩),.pointer (some ⟨g,0,none⟩)] w fun e w'=>e=fail (qq:Int)∧But2 b g w w':=by
 replace H0:=hide H0
 replace H1:=hide H1
 replace H2:=hide H2
 have hne:b≠g:=hbg
 have P:=hide hp
 have hG:=hide hg
 have hB:=hide (But2.refl b g w)
 clear hp hg hbg
 go_enter Tryz.func216,Tryz.ntmps216
 obtain ⟨p2,q2⟩:=ro_cf hG.out 2 _ rfl
 go_upto_region 1 with fail
 clear p2 q2
 replace hG:=hide (show Ro (w.setCell ⟨g,2,none⟩ (.bool true)) g #[.string std,.int .i64 so,.bool true,.string ⟨#[]⟩,.int .i64 0,.int .i64 0,.int .i64 0,.int .i64 0,.int .i64 0,.int .i64 0,.int .i64 0,.int .i64 0,.int .i64 0,.int .i64 0,.int .i64 0,.int .i64 0,.int .i64 0] 83 from ro_set hG.out 2 (.bool true))
 replace P:=hide (show Pz (w.setCell ⟨g,2,none⟩ (.bool true)) b s _ from P.out.set_ne 2 (show g≠b by omega) (.bool true))
 replace hB:=hide (show But2 b g w (w.setCell ⟨g,2,none⟩ (.bool true)) from hB.out.set' (.inr (.inl rfl)) 2 (.bool true))
 generalize w.setCell ⟨g,2,none⟩ (.bool true)=v1 at *
 go_wp2_with fail
 refine (H0.out _ P.out).mono ?_
 rintro e v2 ⟨rfl,p1,h1⟩
 replace hG:=hide (hG.out.but h1 (by omega))
 replace hB:=hide (hB.out.trans (But2.one h1))
 replace P:=hide p1
 clear h1 p1
 obtain ⟨p3,q3⟩:=ro_cf hG.out 3 _ rfl
 go_upto_region 2 with fail
 clear p3 q3
 replace hG:=hide (show Ro (v2.setCell ⟨g,3,none⟩ (.string dst)) g #[.string std,.int .i64 so,.bool true,.string dst,.int .i64 0,.int .i64 0,.int .i64 0,.int .i64 0,.int .i64 0,.int .i64 0,.int .i64 0,.int .i64 0,.int .i64 0,.int .i64 0,.int .i64 0,.int .i64 0,.int .i64 0] 83 from ro_set hG.out 3 (.string dst))
 replace P:=hide (show Pz (v2.setCell ⟨g,3,none⟩ (.string dst)) b s _ from P.out.set_ne 3 (show g≠b by omega) (.string dst))
 replace hB:=hide (show But2 b g w (v2.setCell ⟨g,3,none⟩ (.string dst)) from hB.out.set' (.inr (.inl rfl)) 3 (.string dst))
 generalize v2.setCell ⟨g,3,none⟩ (.string dst)=v3 at *
 obtain ⟨p1,q1⟩:=ro_cf hG.out 1 _ rfl
 go_wp2_with fail
 refine (H1.out _ P.out).mono ?_
 rintro e v4 ⟨rfl,p1,h1⟩
 replace hG:=hide (hG.out.but h1 (by omega))
 replace hB:=hide (hB.out.trans (But2.one h1))
 replace P:=hide p1
 clear h1 p1
 clear p1 q1
 obtain ⟨p4,q4⟩:=ro_cf hG.out 4 _ rfl
 go_upto_region 3 with fail
 clear p4 q4
 replace hG:=hide (show Ro (v4.setCell ⟨g,4,none⟩ (.int .i64 dof)) g #[.string std,.int .i64 so,.bool true,.string dst,.int .i64 dof,.int .i64 0,.int .i64 0,.int .i64 0,.int .i64 0,.int .i64 0,.int .i64 0,.int .i64 0,.int .i64 0,.int .i64 0,.int .i64 0,.int .i64 0,.int .i64 0] 83 from ro_set hG.out 4 (.int .i64 dof))
 replace P:=hide (show Pz (v4.setCell ⟨g,4,none⟩ (.int .i64 dof)) b s _ from P.out.set_ne 4 (show g≠b by omega) (.int .i64 dof))
 replace hB:=hide (show But2 b g w (v4.setCell ⟨g,4,none⟩ (.int .i64 dof)) from hB.out.set' (.inr (.inl rfl)) 4 (.int .i64 dof))
 generalize v4.setCell ⟨g,4,none⟩ (.int .i64 dof)=v5 at *
 go_wp2_with fail
 refine (H2.out _ P.out).mono ?_
 rintro e v ⟨rfl,h1⟩
 unfold fail
 go_wp2
 exact ⟨rfl,rfl,hB.out.trans (But2.one h1)⟩
theorem dayl_3 (s std dst:ByteArray) (so dof:Int) (b g k0 k1 k2 k3 k4 k5 k6 qq:Nat) (st1 st2 st3 st4 st5 st6 en1 en2 en3 en4 en5 en6:Int) (w:World) (hp:Pz w b s (k0:Int)) (hg:Ro w g #[.string std,.int .i64 so,.bool false,.string ⟨#[]⟩,.int .i64 0,.int .i64 0,.int .i64 0,.int .i64 0,.int .i64 0,.int .i64 0,.int .i64 0,.int .i64 0,.int .i64 0,.int .i64 0,.int .i64 0,.int .i64 0,.int .i64 0] 83) (hbg:b≠g)
 (H0:(∀ w,Pz w b s ((k0:Nat):Int)→Calls Tryz.prog 213 #[.pointer (some ⟨b,0,none⟩)] w fun e w'=>e=.returned (.string dst)∧Pz w' b s ((k1:Nat):Int)∧But b w w'))
 (H1:(∀ w,Pz w b s ((k1:Nat):Int)→Calls Tryz.prog 240 #[.pointer (some ⟨b,0,none⟩),.int .i64 so] w fun e w'=>e=.returned (.int .i64 dof)∧Pz w' b s ((k2:Nat):Int)∧But b w w'))
 (H2:(∀ w,Pz w b s ((k2:Nat):Int)→Calls Tryz.prog 241 #[.pointer (some ⟨b,0,none⟩),.string ⟨#[44]⟩] w fun e w'=>e=.returned (.tuple #[])∧Pz w' b s ((k3:Nat):Int)∧But b w w'))
 (H3:(∀ w,Pz w b s ((k3:Nat):Int)→Calls Tryz.prog 242 #[.pointer (some ⟨b,0,none⟩)] w fun e w'=>e=fail ((qq:Nat):Int)∧But b w w')) :
 Calls Tryz.prog 216 #[.pointer (some ⟨b,0,none⟩),.pointer (some ⟨g,0,none⟩)] w fun e w'=>e=fail (qq:Int)∧But2 b g w w':=by
 replace H0:=hide H0
 replace H1:=hide H1
 replace H2:=hide H2
 replace H3:=hide H3
 have hne:b≠g:=hbg
 have P:=hide hp
 have hG:=hide hg
 have hB:=hide (But2.refl b g w)
 clear hp hg hbg
 go_enter Tryz.func216,Tryz.ntmps216
 obtain ⟨p2,q2⟩:=ro_cf hG.out 2 _ rfl
 go_upto_region 1 with fail
 clear p2 q2
 replace hG:=hide (show Ro (w.setCell ⟨g,2,none⟩ (.bool true)) g #[.string std,.int .i64 so,.bool true,.string ⟨#[]⟩,.int .i64 0,.int .i64 0,.int .i64 0,.int .i64 0,.int .i64 0,.int .i64 0,.int .i64 0,.int .i64 0,.int .i64 0,.int .i64 0,.int .i64 0,.int .i64 0,.int .i64 0] 83 from ro_set hG.out 2 (.bool true))
 replace P:=hide (show Pz (w.setCell ⟨g,2,none⟩ (.bool true)) b s _ from P.out.set_ne 2 (show g≠b by omega) (.bool true))
 replace hB:=hide (show But2 b g w (w.setCell ⟨g,2,none⟩ (.bool true)) from hB.out.set' (.inr (.inl rfl)) 2 (.bool true))
 generalize w.setCell ⟨g,2,none⟩ (.bool true)=v1 at *
 go_wp2_with fail
 refine (H0.out _ P.out).mono ?_
 rintro e v2 ⟨rfl,p1,h1⟩
 replace hG:=hide (hG.out.but h1 (by omega))
 replace hB:=hide (hB.out.trans (But2.one h1))
 replace P:=hide p1
 clear h1 p1
 obtain ⟨p3,q3⟩:=ro_cf hG.out 3 _ rfl
 go_upto_region 2 with fail
 clear p3 q3
 replace hG:=hide (show Ro (v2.setCell ⟨g,3,none⟩ (.string dst)) g #[.string std,.int .i64 so,.bool true,.string dst,.int .i64 0,.int .i64 0,.int .i64 0,.int .i64 0,.int .i64 0,.int .i64 0,.int .i64 0,.int .i64 0,.int .i64 0,.int .i64 0,.int .i64 0,.int .i64 0,.int .i64 0] 83 from ro_set hG.out 3 (.string dst))
 replace P:=hide (show Pz (v2.setCell ⟨g,3,none⟩ (.string dst)) b s _ from P.out.set_ne 3 (show g≠b by omega) (.string dst))
 replace hB:=hide (show But2 b g w (v2.setCell ⟨g,3,none⟩ (.string dst)) from hB.out.set' (.inr (.inl rfl)) 3 (.string dst))
 generalize v2.setCell ⟨g,3,none⟩ (.string dst)=v3 at *
 obtain ⟨p1,q1⟩:=ro_cf hG.out 1 _ rfl
 go_wp2_with fail
 refine (H1.out _ P.out).mono ?_
 rintro e v4 ⟨rfl,p1,h1⟩
 replace hG:=hide (hG.out.but h1 (by omega))
 replace hB:=hide (hB.out.trans (But2.one h1))
 replace P:=hide p1
 clear h1 p1
 clear p1 q1
 obtain ⟨p4,q4⟩:=ro_cf hG.out 4 _ rfl
 go_upto_region 3 with fail
 clear p4 q4
 replace hG:=hide (show Ro (v4.setCell ⟨g,4,none⟩ (.int .i64 dof)) g #[.string std,.int .i64 so,.bool true,.string dst,.int .i64 dof,.int .i64 0,.int .i64 0,.int .i64 0,.int .i64 0,.int .i64 0,.int .i64 0,.int .i64 0,.int .i64 0,.int .i64 0,.int .i64 0,.int .i64 0,.int .i64 0] 83 from ro_set hG.out 4 (.int .i64 dof))
 replace P:=hide (show Pz (v4.setCell ⟨g,4,none⟩ (.int .i64 dof)) b s _ from P.out.set_ne 4 (show g≠b by omega) (.int .i64 dof))
 replace hB:=hide (show But2 b g w (v4.setCell ⟨g,4,none⟩ (.int .i64 dof)) from hB.out.set' (.inr (.inl rfl)) 4 (.int .i64 dof))
 generalize v4.setCell ⟨g,4,none⟩ (.int .i64 dof)=v5 at *
 go_wp2_with fail
 refine (H2.out _ P.out).mono ?_
 rintro e v6 ⟨rfl,p1,h1⟩
 replace hG:=hide (hG.out.but h1 (by omega))
 replace hB:=hide (hB.out.trans (But2.one h1))
 replace P:=hide p1
 clear h1 p1
 go_wp2_with fail
 refine (H3.out _ P.out).mono ?_
 rintro e v ⟨rfl,h1⟩
 unfold fail
 go_wp2
 exact ⟨rfl,rfl,hB.out.trans (But2.one h1)⟩
theorem dayl_4 (s std dst:ByteArray) (so dof:Int) (b g k0 k1 k2 k3 k4 k5 k6 qq:Nat) (st1 st2 st3 st4 st5 st6 en1 en2 en3 en4 en5 en6:Int) (w:World) (hp:Pz w b s (k0:Int)) (hg:Ro w g #[.string std,.int .i64 so,.bool false,.string ⟨#[]⟩,.int .i64 0,.int .i64 0,.int .i64 0,.int .i64 0,.int .i64 0,.int .i64 0,.int .i64 0,.int .i64 0,.int .i64 0,.int .i64 0,.int .i64 0,.int .i64 0,.int .i64 0] 83) (hbg:b≠g)
 (H0:(∀ w,Pz w b s ((k0:Nat):Int)→Calls Tryz.prog 213 #[.pointer (some ⟨b,0,none⟩)] w fun e w'=>e=.returned (.string dst)∧Pz w' b s ((k1:Nat):Int)∧But b w w'))
 (H1:(∀ w,Pz w b s ((k1:Nat):Int)→Calls Tryz.prog 240 #[.pointer (some ⟨b,0,none⟩),.int .i64 so] w fun e w'=>e=.returned (.int .i64 dof)∧Pz w' b s ((k2:Nat):Int)∧But b w w'))
 (H2:(∀ w,Pz w b s ((k2:Nat):Int)→Calls Tryz.prog 241 #[.pointer (some ⟨b,0,none⟩),.string ⟨#[44]⟩] w fun e w'=>e=.returned (.tuple #[])∧Pz w' b s ((k3:Nat):Int)∧But b w w'))
 (H3:(∀ w,Pz w b s ((k3:Nat):Int)→Calls Tryz.prog 242 #[.pointer (some ⟨b,0,none⟩)] w fun e w'=>e=.returned (.agg #[.int .i64 st1,.int .i64 st2,.int .i64 st3,.int .i64 st4,.int .i64 st5,.int .i64 st6])∧Pz w' b s ((k4:Nat):Int)∧But b w w'))
 (H4:(∀ w,Pz w b s ((k4:Nat):Int)→Calls Tryz.prog 241 #[.pointer (some ⟨b,0,none⟩),.string ⟨#[44]⟩] w fun e w'=>e=fail ((qq:Nat):Int)∧But b w w')) :
 Calls Tryz.prog 216 #[.pointer (some ⟨b,0,none⟩),.pointer (some ⟨g,0,none⟩)] w fun e w'=>e=fail (qq:Int)∧But2 b g w w':=by
 replace H0:=hide H0
 replace H1:=hide H1
 replace H2:=hide H2
 replace H3:=hide H3
 replace H4:=hide H4
 have hne:b≠g:=hbg
 have P:=hide hp
 have hG:=hide hg
 have hB:=hide (But2.refl b g w)
 clear hp hg hbg
 go_enter Tryz.func216,Tryz.ntmps216
 obtain ⟨p2,q2⟩:=ro_cf hG.out 2 _ rfl
 go_upto_region 1 with fail
 clear p2 q2
 replace hG:=hide (show Ro (w.setCell ⟨g,2,none⟩ (.bool true)) g #[.string std,.int .i64 so,.bool true,.string ⟨#[]⟩,.int .i64 0,.int .i64 0,.int .i64 0,.int .i64 0,.int .i64 0,.int .i64 0,.int .i64 0,.int .i64 0,.int .i64 0,.int .i64 0,.int .i64 0,.int .i64 0,.int .i64 0] 83 from ro_set hG.out 2 (.bool true))
 replace P:=hide (show Pz (w.setCell ⟨g,2,none⟩ (.bool true)) b s _ from P.out.set_ne 2 (show g≠b by omega) (.bool true))
 replace hB:=hide (show But2 b g w (w.setCell ⟨g,2,none⟩ (.bool true)) from hB.out.set' (.inr (.inl rfl)) 2 (.bool true))
 generalize w.setCell ⟨g,2,none⟩ (.bool true)=v1 at *
 go_wp2_with fail
 refine (H0.out _ P.out).mono ?_
 rintro e v2 ⟨rfl,p1,h1⟩
 replace hG:=hide (hG.out.but h1 (by omega))
 replace hB:=hide (hB.out.trans (But2.one h1))
 replace P:=hide p1
 clear h1 p1
 obtain ⟨p3,q3⟩:=ro_cf hG.out 3 _ rfl
 go_upto_region 2 with fail
 clear p3 q3
 replace hG:=hide (show Ro (v2.setCell ⟨g,3,none⟩ (.string dst)) g #[.string std,.int .i64 so,.bool true,.string dst,.int .i64 0,.int .i64 0,.int .i64 0,.int .i64 0,.int .i64 0,.int .i64 0,.int .i64 0,.int .i64 0,.int .i64 0,.int .i64 0,.int .i64 0,.int .i64 0,.int .i64 0] 83 from ro_set hG.out 3 (.string dst))
 replace P:=hide (show Pz (v2.setCell ⟨g,3,none⟩ (.string dst)) b s _ from P.out.set_ne 3 (show g≠b by omega) (.string dst))
 replace hB:=hide (show But2 b g w (v2.setCell ⟨g,3,none⟩ (.string dst)) from hB.out.set' (.inr (.inl rfl)) 3 (.string dst))
 generalize v2.setCell ⟨g,3,none⟩ (.string dst)=v3 at *
 obtain ⟨p1,q1⟩:=ro_cf hG.out 1 _ rfl
 go_wp2_with fail
 refine (H1.out _ P.out).mono ?_
 rintro e v4 ⟨rfl,p1,h1⟩
 replace hG:=hide (hG.out.but h1 (by omega))
 replace hB:=hide (hB.out.trans (But2.one h1))
 replace P:=hide p1
 clear h1 p1
 clear p1 q1
 obtain ⟨p4,q4⟩:=ro_cf hG.out 4 _ rfl
 go_upto_region 3 with fail
 clear p4 q4
 replace hG:=hide (show Ro (v4.setCell ⟨g,4,none⟩ (.int .i64 dof)) g #[.string std,.int .i64 so,.bool true,.string dst,.int .i64 dof,.int .i64 0,.int .i64 0,.int .i64 0,.int .i64 0,.int .i64 0,.int .i64 0,.int .i64 0,.int .i64 0,.int .i64 0,.int .i64 0,.int .i64 0,.int .i64 0] 83 from ro_set hG.out 4 (.int .i64 dof))
 replace P:=hide (show Pz (v4.setCell ⟨g,4,none⟩ (.int .i64 dof)) b s _ from P.out.set_ne 4 (show g≠b by omega) (.int .i64 dof))
 replace hB:=hide (show But2 b g w (v4.setCell ⟨g,4,none⟩ (.int .i64 dof)) from hB.out.set' (.inr (.inl rfl)) 4 (.int .i64 dof))
 generalize v4.setCell ⟨g,4,none⟩ (.int .i64 dof)=v5 at *
 go_wp2_with fail
 refine (H2.out _ P.out).mono ?_
 rintro e v6 ⟨rfl,p1,h1⟩
 replace hG:=hide (hG.out.but h1 (by omega))
 replace hB:=hide (hB.out.trans (But2.one h1))
 replace P:=hide p1
 clear h1 p1
 go_wp2_with fail
 refine (H3.out _ P.out).mono ?_
 rintro e v7 ⟨rfl,p1,h1⟩
 replace hG:=hide (hG.out.but h1 (by omega))
 replace hB:=hide (hB.out.trans (But2.one h1))
 replace P:=hide p1
 clear h1 p1
 obtain ⟨p5,q5⟩:=ro_cf hG.out 5 _ rfl
 obtain ⟨p6,q6⟩:=ro_cf hG.out 6 _ rfl
 obtain ⟨p7,q7⟩:=ro_cf hG.out 7 _ rfl
 obtain ⟨p8,q8⟩:=ro_cf hG.out 8 _ rfl
 obtain ⟨p9,q9⟩:=ro_cf hG.out 9 _ rfl
 obtain ⟨p10,q10⟩:=ro_cf hG.out 10 _ rfl
 go_upto_region 5 with fail
 clear p5 q5 p6 q6 p7 q7 p8 q8 p9 q9 p10 q10
 replace hG:=hide (show Ro (v7.setCell ⟨g,5,none⟩ (.int .i64 st1)) g #[.string std,.int .i64 so,.bool true,.string dst,.int .i64 dof,.int .i64 st1,.int .i64 0,.int .i64 0,.int .i64 0,.int .i64 0,.int .i64 0,.int .i64 0,.int .i64 0,.int .i64 0,.int .i64 0,.int .i64 0,.int .i64 0] 83 from ro_set hG.out 5 (.int .i64 st1))
 replace P:=hide (show Pz (v7.setCell ⟨g,5,none⟩ (.int .i64 st1)) b s _ from P.out.set_ne 5 (show g≠b by omega) (.int .i64 st1))
 replace hB:=hide (show But2 b g w (v7.setCell ⟨g,5,none⟩ (.int .i64 st1)) from hB.out.set' (.inr (.inl rfl)) 5 (.int .i64 st1))
 generalize v7.setCell ⟨g,5,none⟩ (.int .i64 st1)=v8 at *
 replace hG:=hide (show Ro (v8.setCell ⟨g,6,none⟩ (.int .i64 st2)) g #[.string std,.int .i64 so,.bool true,.string dst,.int .i64 dof,.int .i64 st1,.int .i64 st2,.int .i64 0,.int .i64 0,.int .i64 0,.int .i64 0,.int .i64 0,.int .i64 0,.int .i64 0,.int .i64 0,.int .i64 0,.int .i64 0] 83 from ro_set hG.out 6 (.int .i64 st2))
 replace P:=hide (show Pz (v8.setCell ⟨g,6,none⟩ (.int .i64 st2)) b s _ from P.out.set_ne 6 (show g≠b by omega) (.int .i64 st2))
 replace hB:=hide (show But2 b g w (v8.setCell ⟨g,6,none⟩ (.int .i64 st2)) from hB.out.set' (.inr (.inl rfl)) 6 (.int .i64 st2))
 generalize v8.setCell ⟨g,6,none⟩ (.int .i64 st2)=v9 at *
 replace hG:=hide (show Ro (v9.setCell ⟨g,7,none⟩ (.int .i64 st3)) g #[.string std,.int .i64 so,.bool true,.string dst,.int .i64 dof,.int .i64 st1,.int .i64 st2,.int .i64 st3,.int .i64 0,.int .i64 0,.int .i64 0,.int .i64 0,.int .i64 0,.int .i64 0,.int .i64 0,.int .i64 0,.int .i64 0] 83 from ro_set hG.out 7 (.int .i64 st3))
 replace P:=hide (show Pz (v9.setCell ⟨g,7,none⟩ (.int .i64 st3)) b s _ from P.out.set_ne 7 (show g≠b by omega) (.int .i64 st3))
 replace hB:=hide (show But2 b g w (v9.setCell ⟨g,7,none⟩ (.int .i64 st3)) from hB.out.set' (.inr (.inl rfl)) 7 (.int .i64 st3))
 generalize v9.setCell ⟨g,7,none⟩ (.int .i64 st3)=v10 at *
 replace hG:=hide (show Ro (v10.setCell ⟨g,8,none⟩ (.int .i64 st4)) g #[.string std,.int .i64 so,.bool true,.string dst,.int .i64 dof,.int .i64 st1,.int .i64 st2,.int .i64 st3,.int .i64 st4,.int .i64 0,.int .i64 0,.int .i64 0,.int .i64 0,.int .i64 0,.int .i64 0,.int .i64 0,.int .i64 0] 83 from ro_set hG.out 8 (.int .i64 st4))
 replace P:=hide (show Pz (v10.setCell ⟨g,8,none⟩ (.int .i64 st4)) b s _ from P.out.set_ne 8 (show g≠b by omega) (.int .i64 st4))
 replace hB:=hide (show But2 b g w (v10.setCell ⟨g,8,none⟩ (.int .i64 st4)) from hB.out.set' (.inr (.inl rfl)) 8 (.int .i64 st4))
 generalize v10.setCell ⟨g,8,none⟩ (.int .i64 st4)=v11 at *
 replace hG:=hide (show Ro (v11.setCell ⟨g,9,none⟩ (.int .i64 st5)) g #[.string std,.int .i64 so,.bool true,.string dst,.int .i64 dof,.int .i64 st1,.int .i64 st2,.int .i64 st3,.int .i64 st4,.int .i64 st5,.int .i64 0,.int .i64 0,.int .i64 0,.int .i64 0,.int .i64 0,.int .i64 0,.int .i64 0] 83 from ro_set hG.out 9 (.int .i64 st5))
 replace P:=hide (show Pz (v11.setCell ⟨g,9,none⟩ (.int .i64 st5)) b s _ from P.out.set_ne 9 (show g≠b by omega) (.int .i64 st5))
 replace hB:=hide (show But2 b g w (v11.setCell ⟨g,9,none⟩ (.int .i64 st5)) from hB.out.set' (.inr (.inl rfl)) 9 (.int .i64 st5))
 generalize v11.setCell ⟨g,9,none⟩ (.int .i64 st5)=v12 at *
 replace hG:=hide (show Ro (v12.setCell ⟨g,10,none⟩ (.int .i64 st6)) g #[.string std,.int .i64 so,.bool true,.string dst,.int .i64 dof,.int .i64 st1,.int .i64 st2,.int .i64 st3,.int .i64 st4,.int .i64 st5,.int .i64 st6,.int .i64 0,.int .i64 0,.int .i64 0,.int .i64 0,.int .i64 0,.int .i64 0] 83 from ro_set hG.out 10 (.int .i64 st6))
 replace P:=hide (show Pz (v12.setCell ⟨g,10,none⟩ (.int .i64 st6)) b s _ from P.out.set_ne 10 (show g≠b by omega) (.int .i64 st6))
 replace hB:=hide (show But2 b g w (v12.setCell ⟨g,10,none⟩ (.int .i64 st6)) from hB.out.set' (.inr (.inl rfl)) 10 (.int .i64 st6))
 generalize v12.setCell ⟨g,10,none⟩ (.int .i64 st6)=v13 at *
 go_wp2_with fail
 refine (H4.out _ P.out).mono ?_
 rintro e v ⟨rfl,h1⟩
 unfold fail
 go_wp2
 exact ⟨rfl,rfl,hB.out.trans (But2.one h1)⟩
theorem dayl_5 (s std dst:ByteArray) (so dof:Int) (b g k0 k1 k2 k3 k4 k5 k6 qq:Nat) (st1 st2 st3 st4 st5 st6 en1 en2 en3 en4 en5 en6:Int) (w:World) (hp:Pz w b s (k0:Int)) (hg:Ro w g #[.string std,.int .i64 so,.bool false,.string ⟨#[]⟩,.int .i64 0,.int .i64 0,.int .i64 0,.int .i64 0,.int .i64 0,.int .i64 0,.int .i64 0,.int .i64 0,.int .i64 0,.int .i64 0,.int .i64 0,.int .i64 0,.int .i64 0] 83) (hbg:b≠g)
 (H0:(∀ w,Pz w b s ((k0:Nat):Int)→Calls Tryz.prog 213 #[.pointer (some ⟨b,0,none⟩)] w fun e w'=>e=.returned (.string dst)∧Pz w' b s ((k1:Nat):Int)∧But b w w'))
 (H1:(∀ w,Pz w b s ((k1:Nat):Int)→Calls Tryz.prog 240 #[.pointer (some ⟨b,0,none⟩),.int .i64 so] w fun e w'=>e=.returned (.int .i64 dof)∧Pz w' b s ((k2:Nat):Int)∧But b w w'))
 (H2:(∀ w,Pz w b s ((k2:Nat):Int)→Calls Tryz.prog 241 #[.pointer (some ⟨b,0,none⟩),.string ⟨#[44]⟩] w fun e w'=>e=.returned (.tuple #[])∧Pz w' b s ((k3:Nat):Int)∧But b w w'))
 (H3:(∀ w,Pz w b s ((k3:Nat):Int)→Calls Tryz.prog 242 #[.pointer (some ⟨b,0,none⟩)] w fun e w'=>e=.returned (.agg #[.int .i64 st1,.int .i64 st2,.int .i64 st3,.int .i64 st4,.int .i64 st5,.int .i64 st6])∧Pz w' b s ((k4:Nat):Int)∧But b w w'))
 (H4:(∀ w,Pz w b s ((k4:Nat):Int)→Calls Tryz.prog 241 #[.pointer (some ⟨b,0,none⟩),.string ⟨#[44]⟩] w fun e w'=>e=.returned (.tuple #[])∧Pz w' b s ((k5:Nat):Int)∧But b w w'))
 (H5:(∀ w,Pz w b s ((k5:Nat):Int)→Calls Tryz.prog 242 #[.pointer (some ⟨b,0,none⟩)] w fun e w'=>e=fail ((qq:Nat):Int)∧But b w w')) :
 Calls Tryz.prog 216 #[.pointer (some ⟨b,0,none⟩),.pointer (some ⟨g,0,none⟩)] w fun e w'=>e=fail (qq:Int)∧But2 b g w w':=by
 replace H0:=hide H0
 replace H1:=hide H1
 replace H2:=hide H2
 replace H3:=hide H3
 replace H4:=hide H4
 replace H5:=hide H5
 have hne:b≠g:=hbg
 have P:=hide hp
 have hG:=hide hg
 have hB:=hide (But2.refl b g w)
 clear hp hg hbg
 go_enter Tryz.func216,Tryz.ntmps216
 obtain ⟨p2,q2⟩:=ro_cf hG.out 2 _ rfl
 go_upto_region 1 with fail
 clear p2 q2
 replace hG:=hide (show Ro (w.setCell ⟨g,2,none⟩ (.bool true)) g #[.string std,.int .i64 so,.bool true,.string ⟨#[]⟩,.int .i64 0,.int .i64 0,.int .i64 0,.int .i64 0,.int .i64 0,.int .i64 0,.int .i64 0,.int .i64 0,.int .i64 0,.int .i64 0,.int .i64 0,.int .i64 0,.int .i64 0] 83 from ro_set hG.out 2 (.bool true))
 replace P:=hide (show Pz (w.setCell ⟨g,2,none⟩ (.bool true)) b s _ from P.out.set_ne 2 (show g≠b by omega) (.bool true))
 replace hB:=hide (show But2 b g w (w.setCell ⟨g,2,none⟩ (.bool true)) from hB.out.set' (.inr (.inl rfl)) 2 (.bool true))
 generalize w.setCell ⟨g,2,none⟩ (.bool true)=v1 at *
 go_wp2_with fail
 refine (H0.out _ P.out).mono ?_
 rintro e v2 ⟨rfl,p1,h1⟩
 replace hG:=hide (hG.out.but h1 (by omega))
 replace hB:=hide (hB.out.trans (But2.one h1))
 replace P:=hide p1
 clear h1 p1
 obtain ⟨p3,q3⟩:=ro_cf hG.out 3 _ rfl
 go_upto_region 2 with fail
 clear p3 q3
 replace hG:=hide (show Ro (v2.setCell ⟨g,3,none⟩ (.string dst)) g #[.string std,.int .i64 so,.bool true,.string dst,.int .i64 0,.int .i64 0,.int .i64 0,.int .i64 0,.int .i64 0,.int .i64 0,.int .i64 0,.int .i64 0,.int .i64 0,.int .i64 0,.int .i64 0,.int .i64 0,.int .i64 0] 83 from ro_set hG.out 3 (.string dst))
 replace P:=hide (show Pz (v2.setCell ⟨g,3,none⟩ (.string dst)) b s _ from P.out.set_ne 3 (show g≠b by omega) (.string dst))
 replace hB:=hide (show But2 b g w (v2.setCell ⟨g,3,none⟩ (.string dst)) from hB.out.set' (.inr (.inl rfl)) 3 (.string dst))
 generalize v2.setCell ⟨g,3,none⟩ (.string dst)=v3 at *
 obtain ⟨p1,q1⟩:=ro_cf hG.out 1 _ rfl
 go_wp2_with fail
 refine (H1.out _ P.out).mono ?_
 rintro e v4 ⟨rfl,p1,h1⟩
 replace hG:=hide (hG.out.but h1 (by omega))
 replace hB:=hide (hB.out.trans (But2.one h1))
 replace P:=hide p1
 clear h1 p1
 clear p1 q1
 obtain ⟨p4,q4⟩:=ro_cf hG.out 4 _ rfl
 go_upto_region 3 with fail
 clear p4 q4
 replace hG:=hide (show Ro (v4.setCell ⟨g,4,none⟩ (.int .i64 dof)) g #[.string std,.int .i64 so,.bool true,.string dst,.int .i64 dof,.int .i64 0,.int .i64 0,.int .i64 0,.int .i64 0,.int .i64 0,.int .i64 0,.int .i64 0,.int .i64 0,.int .i64 0,.int .i64 0,.int .i64 0,.int .i64 0] 83 from ro_set hG.out 4 (.int .i64 dof))
 replace P:=hide (show Pz (v4.setCell ⟨g,4,none⟩ (.int .i64 dof)) b s _ from P.out.set_ne 4 (show g≠b by omega) (.int .i64 dof))
 replace hB:=hide (show But2 b g w (v4.setCell ⟨g,4,none⟩ (.int .i64 dof)) from hB.out.set' (.inr (.inl rfl)) 4 (.int .i64 dof))
 generalize v4.setCell ⟨g,4,none⟩ (.int .i64 dof)=v5 at *
 go_wp2_with fail
 refine (H2.out _ P.out).mono ?_
 rintro e v6 ⟨rfl,p1,h1⟩
 replace hG:=hide (hG.out.but h1 (by omega))
 replace hB:=hide (hB.out.trans (But2.one h1))
 replace P:=hide p1
 clear h1 p1
 go_wp2_with fail
 refine (H3.out _ P.out).mono ?_
 rintro e v7 ⟨rfl,p1,h1⟩
 replace hG:=hide (hG.out.but h1 (by omega))
 replace hB:=hide (hB.out.trans (But2.one h1))
 replace P:=hide p1
 clear h1 p1
 obtain ⟨p5,q5⟩:=ro_cf hG.out 5 _ rfl
 obtain ⟨p6,q6⟩:=ro_cf hG.out 6 _ rfl
 obtain ⟨p7,q7⟩:=ro_cf hG.out 7 _ rfl
 obtain ⟨p8,q8⟩:=ro_cf hG.out 8 _ rfl
 obtain ⟨p9,q9⟩:=ro_cf hG.out 9 _ rfl
 obtain ⟨p10,q10⟩:=ro_cf hG.out 10 _ rfl
 go_upto_region 5 with fail
 clear p5 q5 p6 q6 p7 q7 p8 q8 p9 q9 p10 q10
 replace hG:=hide (show Ro (v7.setCell ⟨g,5,none⟩ (.int .i64 st1)) g #[.string std,.int .i64 so,.bool true,.string dst,.int .i64 dof,.int .i64 st1,.int .i64 0,.int .i64 0,.int .i64 0,.int .i64 0,.int .i64 0,.int .i64 0,.int .i64 0,.int .i64 0,.int .i64 0,.int .i64 0,.int .i64 0] 83 from ro_set hG.out 5 (.int .i64 st1))
 replace P:=hide (show Pz (v7.setCell ⟨g,5,none⟩ (.int .i64 st1)) b s _ from P.out.set_ne 5 (show g≠b by omega) (.int .i64 st1))
 replace hB:=hide (show But2 b g w (v7.setCell ⟨g,5,none⟩ (.int .i64 st1)) from hB.out.set' (.inr (.inl rfl)) 5 (.int .i64 st1))
 generalize v7.setCell ⟨g,5,none⟩ (.int .i64 st1)=v8 at *
 replace hG:=hide (show Ro (v8.setCell ⟨g,6,none⟩ (.int .i64 st2)) g #[.string std,.int .i64 so,.bool true,.string dst,.int .i64 dof,.int .i64 st1,.int .i64 st2,.int .i64 0,.int .i64 0,.int .i64 0,.int .i64 0,.int .i64 0,.int .i64 0,.int .i64 0,.int .i64 0,.int .i64 0,.int .i64 0] 83 from ro_set hG.out 6 (.int .i64 st2))
 replace P:=hide (show Pz (v8.setCell ⟨g,6,none⟩ (.int .i64 st2)) b s _ from P.out.set_ne 6 (show g≠b by omega) (.int .i64 st2))
 replace hB:=hide (show But2 b g w (v8.setCell ⟨g,6,none⟩ (.int .i64 st2)) from hB.out.set' (.inr (.inl rfl)) 6 (.int .i64 st2))
 generalize v8.setCell ⟨g,6,none⟩ (.int .i64 st2)=v9 at *
 replace hG:=hide (show Ro (v9.setCell ⟨g,7,none⟩ (.int .i64 st3)) g #[.string std,.int .i64 so,.bool true,.string dst,.int .i64 dof,.int .i64 st1,.int .i64 st2,.int .i64 st3,.int .i64 0,.int .i64 0,.int .i64 0,.int .i64 0,.int .i64 0,.int .i64 0,.int .i64 0,.int .i64 0,.int .i64 0] 83 from ro_set hG.out 7 (.int .i64 st3))
 replace P:=hide (show Pz (v9.setCell ⟨g,7,none⟩ (.int .i64 st3)) b s _ from P.out.set_ne 7 (show g≠b by omega) (.int .i64 st3))
 replace hB:=hide (show But2 b g w (v9.setCell ⟨g,7,none⟩ (.int .i64 st3)) from hB.out.set' (.inr (.inl rfl)) 7 (.int .i64 st3))
 generalize v9.setCell ⟨g,7,none⟩ (.int .i64 st3)=v10 at *
 replace hG:=hide (show Ro (v10.setCell ⟨g,8,none⟩ (.int .i64 st4)) g #[.string std,.int .i64 so,.bool true,.string dst,.int .i64 dof,.int .i64 st1,.int .i64 st2,.int .i64 st3,.int .i64 st4,.int .i64 0,.int .i64 0,.int .i64 0,.int .i64 0,.int .i64 0,.int .i64 0,.int .i64 0,.int .i64 0] 83 from ro_set hG.out 8 (.int .i64 st4))
 replace P:=hide (show Pz (v10.setCell ⟨g,8,none⟩ (.int .i64 st4)) b s _ from P.out.set_ne 8 (show g≠b by omega) (.int .i64 st4))
 replace hB:=hide (show But2 b g w (v10.setCell ⟨g,8,none⟩ (.int .i64 st4)) from hB.out.set' (.inr (.inl rfl)) 8 (.int .i64 st4))
 generalize v10.setCell ⟨g,8,none⟩ (.int .i64 st4)=v11 at *
 replace hG:=hide (show Ro (v11.setCell ⟨g,9,none⟩ (.int .i64 st5)) g #[.string std,.int .i64 so,.bool true,.string dst,.int .i64 dof,.int .i64 st1,.int .i64 st2,.int .i64 st3,.int .i64 st4,.int .i64 st5,.int .i64 0,.int .i64 0,.int .i64 0,.int .i64 0,.int .i64 0,.int .i64 0,.int .i64 0] 83 from ro_set hG.out 9 (.int .i64 st5))
 replace P:=hide (show Pz (v11.setCell ⟨g,9,none⟩ (.int .i64 st5)) b s _ from P.out.set_ne 9 (show g≠b by omega) (.int .i64 st5))
 replace hB:=hide (show But2 b g w (v11.setCell ⟨g,9,none⟩ (.int .i64 st5)) from hB.out.set' (.inr (.inl rfl)) 9 (.int .i64 st5))
 generalize v11.setCell ⟨g,9,none⟩ (.int .i64 st5)=v12 at *
 replace hG:=hide (show Ro (v12.setCell ⟨g,10,none⟩ (.int .i64 st6)) g #[.string std,.int .i64 so,.bool true,.string dst,.int .i64 dof,.int .i64 st1,.int .i64 st2,.int .i64 st3,.int .i64 st4,.int .i64 st5,.int .i64 st6,.int .i64 0,.int .i64 0,.int .i64 0,.int .i64 0,.int .i64 0,.int .i64 0] 83 from ro_set hG.out 10 (.int .i64 st6))
 replace P:=hide (show Pz (v12.setCell ⟨g,10,none⟩ (.int .i64 st6)) b s _ from P.out.set_ne 10 (show g≠b by omega) (.int .i64 st6))
 replace hB:=hide (show But2 b g w (v12.setCell ⟨g,10,none⟩ (.int .i64 st6)) from hB.out.set' (.inr (.inl rfl)) 10 (.int .i64 st6))
 generalize v12.setCell ⟨g,10,none⟩ (.int .i64 st6)=v13 at *
 go_wp2_with fail
 refine (H4.out _ P.out).mono ?_
 rintro e v14 ⟨rfl,p1,h1⟩
 replace hG:=hide (hG.out.but h1 (by omega))
 replace hB:=hide (hB.out.trans (But2.one h1))
 replace P:=hide p1
 clear h1 p1
 go_wp2_with fail
 refine (H5.out _ P.out).mono ?_
 rintro e v ⟨rfl,h1⟩
 unfold fail
 go_wp2
 exact ⟨rfl,rfl,hB.out.trans (But2.one h1)⟩
end po_
theorem But.two {b g:Nat} {w w1 w2:World} (h:But b w w1) (k:But2 b g w1 w2) (hg:w.heap.size≤g):But b w w2 :=
 ⟨k.os.trans h.os,k.tape.trans h.tape,k.output.trans h.output,Nat.le_trans h.size k.size,fun i hi hn=>(k.block i (Nat.lt_of_lt_of_le hi h.size) hn (by omega)).trans (h.block i hi hn)⟩
namespace po_
theorem rule_0 (s std dst:ByteArray) (so dof:Int) (b k0 k1 k2 k6 qq:Nat) (st1 st2 st3 st4 st5 st6 en1 en2 en3 en4 en5 en6:Int) (w:World) (hs:s.size≤1000000) (hp:Pz w b s (k0:Int))
 (H0:(∀ w,Pz w b s ((k0:Nat):Int)→Calls Tryz.prog 213 #[.pointer (some ⟨b,0,none⟩)] w fun e w'=>e=fail ((qq:Nat):Int)∧But b w w')) :
 Calls Tryz.prog 186 #[.pointer (some ⟨b,0,none⟩)] w fun e w'=>e=fail (qq:Int)∧But b w w':=by
 replace H0:=hide H0
 have hbl:b<w.heap.size:=hp.1
 have hR:=hide (show Ro ((w.alloc (.cells zA17 83)).alloc (.cells zA17 83)) w.heap.size zA17 83 from (Ro.new w zA17 83).alloc _)
 have hG:=hide (show Ro ((w.alloc (.cells zA17 83)).alloc (.cells zA17 83)) (w.heap.size+1) zA17 83 by have:=Ro.new (w.alloc (.cells zA17 83)) zA17 83;simpa using this)
 have hB:=hide (show But b w ((w.alloc (.cells zA17 83)).alloc (.cells zA17 83)) from ((But.refl b w).alloc _).alloc _)
 have P:=hide (show Pz ((w.alloc (.cells zA17 83)).alloc (.cells zA17 83)) b s _ from (hp.below (bl_new _ _)).below (bl_new _ _))
 clear hp
 go_enter Tryz.func186,Tryz.ntmps186
 go_wp2_with fail
 generalize (w.alloc (.cells zA17 83)).alloc (.cells zA17 83)=v0 at *
 go_wp2_with fail
 refine (H0.out _ P.out).mono ?_
 rintro e v ⟨rfl,h1⟩
 unfold fail
 go_wp2
 exact ⟨rfl,rfl,hB.out.trans h1⟩
theorem rule_1 (s std dst:ByteArray) (so dof:Int) (b k0 k1 k2 k6 qq:Nat) (st1 st2 st3 st4 st5 st6 en1 en2 en3 en4 en5 en6:Int) (w:World) (hs:s.size≤1000000) (hp:Pz w b s (k0:Int))
 (H0:(∀ w,Pz w b s ((k0:Nat):Int)→Calls Tryz.prog 213 #[.pointer (some ⟨b,0,none⟩)] w fun e w'=>e=.returned (.string std)∧Pz w' b s ((k1:Nat):Int)∧But b w w'))
 (H1:(∀ w,Pz w b s ((k1:Nat):Int)→Calls Tryz.prog 214 #[.pointer (some ⟨b,0,none⟩)] w fun e w'=>e=fail ((qq:Nat):Int)∧But b w w')) :
 Calls Tryz.prog 186 #[.pointer (some ⟨b,0,none⟩)] w fun e w'=>e=fail (qq:Int)∧But b w w':=by
 replace H0:=hide H0
 replace H1:=hide H1
 have hbl:b<w.heap.size:=hp.1
 have hR:=hide (show Ro ((w.alloc (.cells zA17 83)).alloc (.cells zA17 83)) w.heap.size zA17 83 from (Ro.new w zA17 83).alloc _)
 have hG:=hide (show Ro ((w.alloc (.cells zA17 83)).alloc (.cells zA17 83)) (w.heap.size+1) zA17 83 by have:=Ro.new (w.alloc (.cells zA17 83)) zA17 83;simpa using this)
 have hB:=hide (show But b w ((w.alloc (.cells zA17 83)).alloc (.cells zA17 83)) from ((But.refl b w).alloc _).alloc _)
 have P:=hide (show Pz ((w.alloc (.cells zA17 83)).alloc (.cells zA17 83)) b s _ from (hp.below (bl_new _ _)).below (bl_new _ _))
 clear hp
 go_enter Tryz.func186,Tryz.ntmps186
 go_wp2_with fail
 generalize (w.alloc (.cells zA17 83)).alloc (.cells zA17 83)=v0 at *
 go_wp2_with fail
 refine (H0.out _ P.out).mono ?_
 rintro e v1 ⟨rfl,p1,h1⟩
 replace hR:=hide (hR.out.but h1 (by omega))
 replace hG:=hide (hG.out.but h1 (by omega))
 replace hB:=hide (hB.out.trans h1)
 replace P:=hide p1
 clear h1 p1
 obtain ⟨p0,q0⟩:=ro_cf hG.out 0 _ rfl
 go_upto_region 3 with fail
 clear p0 q0
 replace hG:=hide (show Ro (v1.setCell ⟨w.heap.size+1,0,none⟩ (.string std)) (w.heap.size+1) #[.string std,.int .i64 0,.bool false,.string ⟨#[]⟩,.int .i64 0,.int .i64 0,.int .i64 0,.int .i64 0,.int .i64 0,.int .i64 0,.int .i64 0,.int .i64 0,.int .i64 0,.int .i64 0,.int .i64 0,.int .i64 0,.int .i64 0] 83 from ro_set hG.out 0 (.string std))
 replace hR:=hide (ro_set_ne hR.out (show w.heap.size+1≠w.heap.size by omega) 0 (.string std))
 replace P:=hide (show Pz (v1.setCell ⟨w.heap.size+1,0,none⟩ (.string std)) b s _ from P.out.set_ne 0 (show w.heap.size+1≠b by omega) (.string std))
 replace hB:=hide (show But b w (v1.setCell ⟨w.heap.size+1,0,none⟩ (.string std)) from hB.out.setNew (show w.heap.size≤w.heap.size+1 by omega) (.string std))
 generalize v1.setCell ⟨w.heap.size+1,0,none⟩ (.string std)=v2 at *
 go_wp2_with fail
 refine (H1.out _ P.out).mono ?_
 rintro e v ⟨rfl,h1⟩
 unfold fail
 go_wp2
 exact ⟨rfl,rfl,hB.out.trans h1⟩
theorem rule_s (s std dst:ByteArray) (so dof:Int) (b k0 k1 k2 k6 qq:Nat) (st1 st2 st3 st4 st5 st6 en1 en2 en3 en4 en5 en6:Int) (w:World) (hs:s.size≤1000000) (hp:Pz w b s (k0:Int))
 (H0:(∀ w,Pz w b s ((k0:Nat):Int)→Calls Tryz.prog 213 #[.pointer (some ⟨b,0,none⟩)] w fun e w'=>e=.returned (.string std)∧Pz w' b s ((k1:Nat):Int)∧But b w w'))
 (H1:(∀ w,Pz w b s ((k1:Nat):Int)→Calls Tryz.prog 214 #[.pointer (some ⟨b,0,none⟩)] w fun e w'=>e=.returned (.int .i64 so)∧Pz w' b s ((k2:Nat):Int)∧But b w w')) (hk2:k2≤s.size) (hX:mkS (rst s k2)=⟨#[]⟩) :
 Calls Tryz.prog 186 #[.pointer (some ⟨b,0,none⟩)] w fun e w'=>e=.returned (.agg #[.string std,.int .i64 so,.bool false,.string ⟨#[]⟩,.int .i64 0,.int .i64 0,.int .i64 0,.int .i64 0,.int .i64 0,.int .i64 0,.int .i64 0,.int .i64 0,.int .i64 0,.int .i64 0,.int .i64 0,.int .i64 0,.int .i64 0])∧Pz w' b s (k2:Int)∧But b w w':=by
 replace H0:=hide H0
 replace H1:=hide H1
 have R:=hide (fun w hp=>rest_ s k2 b w hs hk2 hp)
 rw [show mkS (rst s k2)=⟨#[]⟩ from hX] at R
 have I:=hide (fun w=>inRange_ 0 w (by omega) (by omega))
 rw [show decide (offOk 0)=true from by decide] at I
 have hbl:b<w.heap.size:=hp.1
 have hR:=hide (show Ro ((w.alloc (.cells zA17 83)).alloc (.cells zA17 83)) w.heap.size zA17 83 from (Ro.new w zA17 83).alloc _)
 have hG:=hide (show Ro ((w.alloc (.cells zA17 83)).alloc (.cells zA17 83)) (w.heap.size+1) zA17 83 by have:=Ro.new (w.alloc (.cells zA17 83)) zA17 83;simpa using this)
 have hB:=hide (show But b w ((w.alloc (.cells zA17 83)).alloc (.cells zA17 83)) from ((But.refl b w).alloc _).alloc _)
 have P:=hide (show Pz ((w.alloc (.cells zA17 83)).alloc (.cells zA17 83)) b s _ from (hp.below (bl_new _ _)).below (bl_new _ _))
 clear hp
 go_enter Tryz.func186,Tryz.ntmps186
 go_wp2_with fail
 generalize (w.alloc (.cells zA17 83)).alloc (.cells zA17 83)=v0 at *
 go_wp2_with fail
 refine (H0.out _ P.out).mono ?_
 rintro e v1 ⟨rfl,p1,h1⟩
 replace hR:=hide (hR.out.but h1 (by omega))
 replace hG:=hide (hG.out.but h1 (by omega))
 replace hB:=hide (hB.out.trans h1)
 replace P:=hide p1
 clear h1 p1
 obtain ⟨p0,q0⟩:=ro_cf hG.out 0 _ rfl
 go_upto_region 3 with fail
 clear p0 q0
 replace hG:=hide (show Ro (v1.setCell ⟨w.heap.size+1,0,none⟩ (.string std)) (w.heap.size+1) #[.string std,.int .i64 0,.bool false,.string ⟨#[]⟩,.int .i64 0,.int .i64 0,.int .i64 0,.int .i64 0,.int .i64 0,.int .i64 0,.int .i64 0,.int .i64 0,.int .i64 0,.int .i64 0,.int .i64 0,.int .i64 0,.int .i64 0] 83 from ro_set hG.out 0 (.string std))
 replace hR:=hide (ro_set_ne hR.out (show w.heap.size+1≠w.heap.size by omega) 0 (.string std))
 replace P:=hide (show Pz (v1.setCell ⟨w.heap.size+1,0,none⟩ (.string std)) b s _ from P.out.set_ne 0 (show w.heap.size+1≠b by omega) (.string std))
 replace hB:=hide (show But b w (v1.setCell ⟨w.heap.size+1,0,none⟩ (.string std)) from hB.out.setNew (show w.heap.size≤w.heap.size+1 by omega) (.string std))
 generalize v1.setCell ⟨w.heap.size+1,0,none⟩ (.string std)=v2 at *
 go_wp2_with fail
 refine (H1.out _ P.out).mono ?_
 rintro e v3 ⟨rfl,p1,h1⟩
 replace hR:=hide (hR.out.but h1 (by omega))
 replace hG:=hide (hG.out.but h1 (by omega))
 replace hB:=hide (hB.out.trans h1)
 replace P:=hide p1
 clear h1 p1
 obtain ⟨p1,q1⟩:=ro_cf hG.out 1 _ rfl
 go_upto_region 4 with fail
 clear p1 q1
 replace hG:=hide (show Ro (v3.setCell ⟨w.heap.size+1,1,none⟩ (.int .i64 so)) (w.heap.size+1) #[.string std,.int .i64 so,.bool false,.string ⟨#[]⟩,.int .i64 0,.int .i64 0,.int .i64 0,.int .i64 0,.int .i64 0,.int .i64 0,.int .i64 0,.int .i64 0,.int .i64 0,.int .i64 0,.int .i64 0,.int .i64 0,.int .i64 0] 83 from ro_set hG.out 1 (.int .i64 so))
 replace hR:=hide (ro_set_ne hR.out (show w.heap.size+1≠w.heap.size by omega) 1 (.int .i64 so))
 replace P:=hide (show Pz (v3.setCell ⟨w.heap.size+1,1,none⟩ (.int .i64 so)) b s _ from P.out.set_ne 1 (show w.heap.size+1≠b by omega) (.int .i64 so))
 replace hB:=hide (show But b w (v3.setCell ⟨w.heap.size+1,1,none⟩ (.int .i64 so)) from hB.out.setNew (show w.heap.size≤w.heap.size+1 by omega) (.int .i64 so))
 generalize v3.setCell ⟨w.heap.size+1,1,none⟩ (.int .i64 so)=v4 at *
 go_wp2_with fail
 refine (R.out _ P.out).mono ?_
 rintro e v5 ⟨rfl,h1⟩
 replace P:=hide (P.out.below h1)
 replace hR:=hide (hR.out.below h1)
 replace hG:=hide (hG.out.below h1)
 replace hB:=hide (hB.out.next h1)
 clear h1
 go_wp2_with fail
 refine (R.out _ P.out).mono ?_
 rintro e v6 ⟨rfl,h1⟩
 replace P:=hide (P.out.below h1)
 replace hR:=hide (hR.out.below h1)
 replace hG:=hide (hG.out.below h1)
 replace hB:=hide (hB.out.next h1)
 clear h1
 obtain ⟨p4,q4⟩:=ro_cf hG.out 4 _ rfl
 go_wp2_with fail
 refine (I.out _).mono ?_
 rintro e v ⟨rfl,rfl⟩
 go_wp2_with fail
 refine (require_yes b _).mono ?_
 rintro e v ⟨rfl,rfl⟩
 clear p4 q4
 have G:Gr Tryz.prog 83 17 #[.string std,.int .i64 so,.bool false,.string ⟨#[]⟩,.int .i64 0,.int .i64 0,.int .i64 0,.int .i64 0,.int .i64 0,.int .i64 0,.int .i64 0,.int .i64 0,.int .i64 0,.int .i64 0,.int .i64 0,.int .i64 0,.int .i64 0]:=⟨by rw [show (#[.string std,.int .i64 so,.bool false,.string ⟨#[]⟩,.int .i64 0,.int .i64 0,.int .i64 0,.int .i64 0,.int .i64 0,.int .i64 0,.int .i64 0,.int .i64 0,.int .i64 0,.int .i64 0,.int .i64 0,.int .i64 0,.int .i64 0]:Array Value).size=17 from rfl];kernel_rfl,rfl,by simp [Value.oneCell']⟩
 generalize hcs:(#[.string std,.int .i64 so,.bool false,.string ⟨#[]⟩,.int .i64 0,.int .i64 0,.int .i64 0,.int .i64 0,.int .i64 0,.int .i64 0,.int .i64 0,.int .i64 0,.int .i64 0,.int .i64 0,.int .i64 0,.int .i64 0,.int .i64 0]:Array Value)=cs at *
 have G1:=G.1
 have G2:=G.2.2
 have zs:(zA17:Array Value).size=cs.size:=by rw [G.2.1];rfl
 go_wp2_with (first | (refine wpList_store_row rfl 83 _ _ rfl _ _ rfl rfl _ _ hR.out G1 zs G2 ?_) | (refine load_row_g (by rfl) 83 _ rfl _ rfl _ _ _ hG.out Tryz.underlying83 rfl G1 ?_))
 have hl:=((ro_row hR.out cs).load 83 _ Tryz.underlying83 rfl G1).2
 exact bodyPost_ret (results_c Tryz.results186 rfl hl) rfl ⟨by rw [← hcs],P.out.row (by omega) _,hB.out.row (by omega) _⟩
theorem rule_df (s std dst:ByteArray) (so dof:Int) (b k0 k1 k2 k6 qq:Nat) (st1 st2 st3 st4 st5 st6 en1 en2 en3 en4 en5 en6:Int) (w:World) (hs:s.size≤1000000) (hp:Pz w b s (k0:Int))
 (H0:(∀ w,Pz w b s ((k0:Nat):Int)→Calls Tryz.prog 213 #[.pointer (some ⟨b,0,none⟩)] w fun e w'=>e=.returned (.string std)∧Pz w' b s ((k1:Nat):Int)∧But b w w'))
 (H1:(∀ w,Pz w b s ((k1:Nat):Int)→Calls Tryz.prog 214 #[.pointer (some ⟨b,0,none⟩)] w fun e w'=>e=.returned (.int .i64 so)∧Pz w' b s ((k2:Nat):Int)∧But b w w')) (hk2:k2≤s.size) (hX:(mkS (rst s k2)).toList.isEmpty=false)
 (HD:(∀ g w,Pz w b s (k2:Int)→Ro w g #[.string std,.int .i64 so,.bool false,.string ⟨#[]⟩,.int .i64 0,.int .i64 0,.int .i64 0,.int .i64 0,.int .i64 0,.int .i64 0,.int .i64 0,.int .i64 0,.int .i64 0,.int .i64 0,.int .i64 0,.int .i64 0,.int .i64 0] 83→b≠g→Calls Tryz.prog 216 #[.pointer (some ⟨b,0,none⟩),.pointer (some ⟨g,0,none⟩)] w fun e w'=>e=fail (qq:Int)∧But2 b g w w')) :
 Calls Tryz.prog 186 #[.pointer (some ⟨b,0,none⟩)] w fun e w'=>e=fail (qq:Int)∧But b w w':=by
 replace H0:=hide H0
 replace H1:=hide H1
 replace HD:=hide HD
 have R:=hide (fun w hp=>rest_ s k2 b w hs hk2 hp)
 obtain ⟨X,hX2⟩:∃ X,X=mkS (rst s k2):=⟨_,rfl⟩
 rw [← hX2] at R hX
 have x1:X.toList.isEmpty=false:=hX
 clear hX2 hX
 have hbl:b<w.heap.size:=hp.1
 have hR:=hide (show Ro ((w.alloc (.cells zA17 83)).alloc (.cells zA17 83)) w.heap.size zA17 83 from (Ro.new w zA17 83).alloc _)
 have hG:=hide (show Ro ((w.alloc (.cells zA17 83)).alloc (.cells zA17 83)) (w.heap.size+1) zA17 83 by have:=Ro.new (w.alloc (.cells zA17 83)) zA17 83;simpa using this)
 have hB:=hide (show But b w ((w.alloc (.cells zA17 83)).alloc (.cells zA17 83)) from ((But.refl b w).alloc _).alloc _)
 have P:=hide (show Pz ((w.alloc (.cells zA17 83)).alloc (.cells zA17 83)) b s _ from (hp.below (bl_new _ _)).below (bl_new _ _))
 clear hp
 go_enter Tryz.func186,Tryz.ntmps186
 go_wp2_with fail
 generalize (w.alloc (.cells zA17 83)).alloc (.cells zA17 83)=v0 at *
 go_wp2_with fail
 refine (H0.out _ P.out).mono ?_
 rintro e v1 ⟨rfl,p1,h1⟩
 replace hR:=hide (hR.out.but h1 (by omega))
 replace hG:=hide (hG.out.but h1 (by omega))
 replace hB:=hide (hB.out.trans h1)
 replace P:=hide p1
 clear h1 p1
 obtain ⟨p0,q0⟩:=ro_cf hG.out 0 _ rfl
 go_upto_region 3 with fail
 clear p0 q0
 replace hG:=hide (show Ro (v1.setCell ⟨w.heap.size+1,0,none⟩ (.string std)) (w.heap.size+1) #[.string std,.int .i64 0,.bool false,.string ⟨#[]⟩,.int .i64 0,.int .i64 0,.int .i64 0,.int .i64 0,.int .i64 0,.int .i64 0,.int .i64 0,.int .i64 0,.int .i64 0,.int .i64 0,.int .i64 0,.int .i64 0,.int .i64 0] 83 from ro_set hG.out 0 (.string std))
 replace hR:=hide (ro_set_ne hR.out (show w.heap.size+1≠w.heap.size by omega) 0 (.string std))
 replace P:=hide (show Pz (v1.setCell ⟨w.heap.size+1,0,none⟩ (.string std)) b s _ from P.out.set_ne 0 (show w.heap.size+1≠b by omega) (.string std))
 replace hB:=hide (show But b w (v1.setCell ⟨w.heap.size+1,0,none⟩ (.string std)) from hB.out.setNew (show w.heap.size≤w.heap.size+1 by omega) (.string std))
 generalize v1.setCell ⟨w.heap.size+1,0,none⟩ (.string std)=v2 at *
 go_wp2_with fail
 refine (H1.out _ P.out).mono ?_
 rintro e v3 ⟨rfl,p1,h1⟩
 replace hR:=hide (hR.out.but h1 (by omega))
 replace hG:=hide (hG.out.but h1 (by omega))
 replace hB:=hide (hB.out.trans h1)
 replace P:=hide p1
 clear h1 p1
 obtain ⟨p1,q1⟩:=ro_cf hG.out 1 _ rfl
 go_upto_region 4 with fail
 clear p1 q1
 replace hG:=hide (show Ro (v3.setCell ⟨w.heap.size+1,1,none⟩ (.int .i64 so)) (w.heap.size+1) #[.string std,.int .i64 so,.bool false,.string ⟨#[]⟩,.int .i64 0,.int .i64 0,.int .i64 0,.int .i64 0,.int .i64 0,.int .i64 0,.int .i64 0,.int .i64 0,.int .i64 0,.int .i64 0,.int .i64 0,.int .i64 0,.int .i64 0] 83 from ro_set hG.out 1 (.int .i64 so))
 replace hR:=hide (ro_set_ne hR.out (show w.heap.size+1≠w.heap.size by omega) 1 (.int .i64 so))
 replace P:=hide (show Pz (v3.setCell ⟨w.heap.size+1,1,none⟩ (.int .i64 so)) b s _ from P.out.set_ne 1 (show w.heap.size+1≠b by omega) (.int .i64 so))
 replace hB:=hide (show But b w (v3.setCell ⟨w.heap.size+1,1,none⟩ (.int .i64 so)) from hB.out.setNew (show w.heap.size≤w.heap.size+1 by omega) (.int .i64 so))
 generalize v3.setCell ⟨w.heap.size+1,1,none⟩ (.int .i64 so)=v4 at *
 go_wp2_with fail
 refine (R.out _ P.out).mono ?_
 rintro e v5 ⟨rfl,h1⟩
 replace P:=hide (P.out.below h1)
 replace hR:=hide (hR.out.below h1)
 replace hG:=hide (hG.out.below h1)
 replace hB:=hide (hB.out.next h1)
 clear h1
 go_wp2_with fail
 refine (HD.out _ _ P.out hG.out (by omega)).mono ?_
 rintro e v ⟨rfl,h1⟩
 unfold fail
 go_wp2
 exact ⟨rfl,rfl,hB.out.two h1 (by omega)⟩
theorem rule_r (s std dst:ByteArray) (so dof:Int) (b k0 k1 k2 k6 qq:Nat) (st1 st2 st3 st4 st5 st6 en1 en2 en3 en4 en5 en6:Int) (w:World) (hs:s.size≤1000000) (hp:Pz w b s (k0:Int))
 (H0:(∀ w,Pz w b s ((k0:Nat):Int)→Calls Tryz.prog 213 #[.pointer (some ⟨b,0,none⟩)] w fun e w'=>e=.returned (.string std)∧Pz w' b s ((k1:Nat):Int)∧But b w w'))
 (H1:(∀ w,Pz w b s ((k1:Nat):Int)→Calls Tryz.prog 214 #[.pointer (some ⟨b,0,none⟩)] w fun e w'=>e=.returned (.int .i64 so)∧Pz w' b s ((k2:Nat):Int)∧But b w w')) (hk2:k2≤s.size) (hX:(mkS (rst s k2)).toList.isEmpty=false)
 (HD:(∀ g w,Pz w b s (k2:Int)→Ro w g #[.string std,.int .i64 so,.bool false,.string ⟨#[]⟩,.int .i64 0,.int .i64 0,.int .i64 0,.int .i64 0,.int .i64 0,.int .i64 0,.int .i64 0,.int .i64 0,.int .i64 0,.int .i64 0,.int .i64 0,.int .i64 0,.int .i64 0] 83→b≠g→Calls Tryz.prog 216 #[.pointer (some ⟨b,0,none⟩),.pointer (some ⟨g,0,none⟩)] w fun e w'=>e=.returned (.tuple #[])∧Pz w' b s (k6:Int)∧Ro w' g #[.string std,.int .i64 so,.bool true,.string dst,.int .i64 dof,.int .i64 st1,.int .i64 st2,.int .i64 st3,.int .i64 st4,.int .i64 st5,.int .i64 st6,.int .i64 en1,.int .i64 en2,.int .i64 en3,.int .i64 en4,.int .i64 en5,.int .i64 en6] 83∧But2 b g w w')) (hk6:k6≤s.size) (hY:(mkS (rst s k6)).toList.isEmpty=false) :
 Calls Tryz.prog 186 #[.pointer (some ⟨b,0,none⟩)] w fun e w'=>e=fail (k6:Int)∧But b w w':=by
 replace H0:=hide H0
 replace H1:=hide H1
 replace HD:=hide HD
 have R:=hide (fun w hp=>rest_ s k2 b w hs hk2 hp)
 obtain ⟨X,hX2⟩:∃ X,X=mkS (rst s k2):=⟨_,rfl⟩
 rw [← hX2] at R hX
 have x1:X.toList.isEmpty=false:=hX
 clear hX2 hX
 have R2:=hide (fun w hp=>rest_ s k6 b w hs hk6 hp)
 obtain ⟨Y,hY2⟩:∃ Y,Y=mkS (rst s k6):=⟨_,rfl⟩
 rw [← hY2] at R2 hY
 have y1:Y.toList.isEmpty=false:=hY
 clear hY2 hY
 have hbl:b<w.heap.size:=hp.1
 have hR:=hide (show Ro ((w.alloc (.cells zA17 83)).alloc (.cells zA17 83)) w.heap.size zA17 83 from (Ro.new w zA17 83).alloc _)
 have hG:=hide (show Ro ((w.alloc (.cells zA17 83)).alloc (.cells zA17 83)) (w.heap.size+1) zA17 83 by have:=Ro.new (w.alloc (.cells zA17 83)) zA17 83;simpa using this)
 have hB:=hide (show But b w ((w.alloc (.cells zA17 83)).alloc (.cells zA17 83)) from ((But.refl b w).alloc _).alloc _)
 have P:=hide (show Pz ((w.alloc (.cells zA17 83)).alloc (.cells zA17 83)) b s _ from (hp.below (bl_new _ _)).below (bl_new _ _))
 clear hp
 go_enter Tryz.func186,Tryz.ntmps186
 go_wp2_with fail
 generalize (w.alloc (.cells zA17 83)).alloc (.cells zA17 83)=v0 at *
 go_wp2_with fail
 refine (H0.out _ P.out).mono ?_
 rintro e v1 ⟨rfl,p1,h1⟩
 replace hR:=hide (hR.out.but h1 (by omega))
 replace hG:=hide (hG.out.but h1 (by omega))
 replace hB:=hide (hB.out.trans h1)
 replace P:=hide p1
 clear h1 p1
 obtain ⟨p0,q0⟩:=ro_cf hG.out 0 _ rfl
 go_upto_region 3 with fail
 clear p0 q0
 replace hG:=hide (show Ro (v1.setCell ⟨w.heap.size+1,0,none⟩ (.string std)) (w.heap.size+1) #[.string std,.int .i64 0,.bool false,.string ⟨#[]⟩,.int .i64 0,.int .i64 0,.int .i64 0,.int .i64 0,.int .i64 0,.int .i64 0,.int .i64 0,.int .i64 0,.int .i64 0,.int .i64 0,.int .i64 0,.int .i64 0,.int .i64 0] 83 from ro_set hG.out 0 (.string std))
 replace hR:=hide (ro_set_ne hR.out (show w.heap.size+1≠w.heap.size by omega) 0 (.string std))
 replace P:=hide (show Pz (v1.setCell ⟨w.heap.size+1,0,none⟩ (.string std)) b s _ from P.out.set_ne 0 (show w.heap.size+1≠b by omega) (.string std))
 replace hB:=hide (show But b w (v1.setCell ⟨w.heap.size+1,0,none⟩ (.string std)) from hB.out.setNew (show w.heap.size≤w.heap.size+1 by omega) (.string std))
 generalize v1.setCell ⟨w.heap.size+1,0,none⟩ (.string std)=v2 at *
 go_wp2_with fail
 refine (H1.out _ P.out).mono ?_
 rintro e v3 ⟨rfl,p1,h1⟩
 replace hR:=hide (hR.out.but h1 (by omega))
 replace hG:=hide (hG.out.but h1 (by omega))
 replace hB:=hide (hB.out.trans h1)
 replace P:=hide p1
 clear h1 p1
 obtain ⟨p1,q1⟩:=ro_cf hG.out 1 _ rfl
 go_upto_region 4 with fail
 clear p1 q1
 replace hG:=hide (show Ro (v3.setCell ⟨w.heap.size+1,1,none⟩ (.int .i64 so)) (w.heap.size+1) #[.string std,.int .i64 so,.bool false,.string ⟨#[]⟩,.int .i64 0,.int .i64 0,.int .i64 0,.int .i64 0,.int .i64 0,.int .i64 0,.int .i64 0,.int .i64 0,.int .i64 0,.int .i64 0,.int .i64 0,.int .i64 0,.int .i64 0] 83 from ro_set hG.out 1 (.int .i64 so))
 replace hR:=hide (ro_set_ne hR.out (show w.heap.size+1≠w.heap.size by omega) 1 (.int .i64 so))
 replace P:=hide (show Pz (v3.setCell ⟨w.heap.size+1,1,none⟩ (.int .i64 so)) b s _ from P.out.set_ne 1 (show w.heap.size+1≠b by omega) (.int .i64 so))
 replace hB:=hide (show But b w (v3.setCell ⟨w.heap.size+1,1,none⟩ (.int .i64 so)) from hB.out.setNew (show w.heap.size≤w.heap.size+1 by omega) (.int .i64 so))
 generalize v3.setCell ⟨w.heap.size+1,1,none⟩ (.int .i64 so)=v4 at *
 go_wp2_with fail
 refine (R.out _ P.out).mono ?_
 rintro e v5 ⟨rfl,h1⟩
 replace P:=hide (P.out.below h1)
 replace hR:=hide (hR.out.below h1)
 replace hG:=hide (hG.out.below h1)
 replace hB:=hide (hB.out.next h1)
 clear h1
 go_wp2_with fail
 refine (HD.out _ _ P.out hG.out (by omega)).mono ?_
 rintro e v6 ⟨rfl,p1,g1,h1⟩
 replace hR:=hide (hR.out.but2 h1 (by omega) (by omega))
 replace hG:=hide g1
 replace P:=hide p1
 replace hB:=hide (hB.out.two h1 (by omega))
 clear p1 g1 h1
 go_wp2_with fail
 refine (R2.out _ P.out).mono ?_
 rintro e v7 ⟨rfl,h1⟩
 replace P:=hide (P.out.below h1)
 replace hR:=hide (hR.out.below h1)
 replace hG:=hide (hG.out.below h1)
 replace hB:=hide (hB.out.next h1)
 clear h1
 go_wp2_with fail
 refine (require_no s (k6:Int) b _ P.out).mono ?_
 rintro e v ⟨rfl,rfl⟩
 unfold fail
 go_wp2
 exact ⟨rfl,rfl,hB.out⟩
theorem rule_n (s std dst:ByteArray) (so dof:Int) (b k0 k1 k2 k6 qq:Nat) (st1 st2 st3 st4 st5 st6 en1 en2 en3 en4 en5 en6:Int) (w:World) (hs:s.size≤1000000) (hp:Pz w b s (k0:Int))
 (H0:(∀ w,Pz w b s ((k0:Nat):Int)→Calls Tryz.prog 213 #[.pointer (some ⟨b,0,none⟩)] w fun e w'=>e=.returned (.string std)∧Pz w' b s ((k1:Nat):Int)∧But b w w'))
 (H1:(∀ w,Pz w b s ((k1:Nat):Int)→Calls Tryz.prog 214 #[.pointer (some ⟨b,0,none⟩)] w fun e w'=>e=.returned (.int .i64 so)∧Pz w' b s ((k2:Nat):Int)∧But b w w')) (hk2:k2≤s.size) (hX:(mkS (rst s k2)).toList.isEmpty=false)
 (HD:(∀ g w,Pz w b s (k2:Int)→Ro w g #[.string std,.int .i64 so,.bool false,.string ⟨#[]⟩,.int .i64 0,.int .i64 0,.int .i64 0,.int .i64 0,.int .i64 0,.int .i64 0,.int .i64 0,.int .i64 0,.int .i64 0,.int .i64 0,.int .i64 0,.int .i64 0,.int .i64 0] 83→b≠g→Calls Tryz.prog 216 #[.pointer (some ⟨b,0,none⟩),.pointer (some ⟨g,0,none⟩)] w fun e w'=>e=.returned (.tuple #[])∧Pz w' b s (k6:Int)∧Ro w' g #[.string std,.int .i64 so,.bool true,.string dst,.int .i64 dof,.int .i64 st1,.int .i64 st2,.int .i64 st3,.int .i64 st4,.int .i64 st5,.int .i64 st6,.int .i64 en1,.int .i64 en2,.int .i64 en3,.int .i64 en4,.int .i64 en5,.int .i64 en6] 83∧But2 b g w w')) (hk6:k6≤s.size) (hi:-9223372036854775808≤dof∧dof<9223372036854775808) (hY:mkS (rst s k6)=⟨#[]⟩) (ho:decide (offOk dof)=false) :
 Calls Tryz.prog 186 #[.pointer (some ⟨b,0,none⟩)] w fun e w'=>e=fail (k6:Int)∧But b w w':=by
 replace H0:=hide H0
 replace H1:=hide H1
 replace HD:=hide HD
 have R:=hide (fun w hp=>rest_ s k2 b w hs hk2 hp)
 obtain ⟨X,hX2⟩:∃ X,X=mkS (rst s k2):=⟨_,rfl⟩
 rw [← hX2] at R hX
 have x1:X.toList.isEmpty=false:=hX
 clear hX2 hX
 have R2:=hide (fun w hp=>rest_ s k6 b w hs hk6 hp)
 rw [show mkS (rst s k6)=⟨#[]⟩ from hY] at R2
 have I:=hide (fun w=>inRange_ dof w hi.1 hi.2)
 rw [show decide (offOk dof)=false from ho] at I
 have hbl:b<w.heap.size:=hp.1
 have hR:=hide (show Ro ((w.alloc (.cells zA17 83)).alloc (.cells zA17 83)) w.heap.size zA17 83 from (Ro.new w zA17 83).alloc _)
 have hG:=hide (show Ro ((w.alloc (.cells zA17 83)).alloc (.cells zA17 83)) (w.heap.size+1) zA17 83 by have:=Ro.new (w.alloc (.cells zA17 83)) zA17 83;simpa using this)
 have hB:=hide (show But b w ((w.alloc (.cells zA17 83)).alloc (.cells zA17 83)) from ((But.refl b w).alloc _).alloc _)
 have P:=hide (show Pz ((w.alloc (.cells zA17 83)).alloc (.cells zA17 83)) b s _ from (hp.below (bl_new _ _)).below (bl_new _ _))
 clear hp
 go_enter Tryz.func186,Tryz.ntmps186
 go_wp2_with fail
 generalize (w.alloc (.cells zA17 83)).alloc (.cells zA17 83)=v0 at *
 go_wp2_with fail
 refine (H0.out _ P.out).mono ?_
 rintro e v1 ⟨rfl,p1,h1⟩
 replace hR:=hide (hR.out.but h1 (by omega))
 replace hG:=hide (hG.out.but h1 (by omega))
 replace hB:=hide (hB.out.trans h1)
 replace P:=hide p1
 clear h1 p1
 obtain ⟨p0,q0⟩:=ro_cf hG.out 0 _ rfl
 go_upto_region 3 with fail
 clear p0 q0
 replace hG:=hide (show Ro (v1.setCell ⟨w.heap.size+1,0,none⟩ (.string std)) (w.heap.size+1) #[.string std,.int .i64 0,.bool false,.string ⟨#[]⟩,.int .i64 0,.int .i64 0,.int .i64 0,.int .i64 0,.int .i64 0,.int .i64 0,.int .i64 0,.int .i64 0,.int .i64 0,.int .i64 0,.int .i64 0,.int .i64 0,.int .i64 0] 83 from ro_set hG.out 0 (.string std))
 replace hR:=hide (ro_set_ne hR.out (show w.heap.size+1≠w.heap.size by omega) 0 (.string std))
 replace P:=hide (show Pz (v1.setCell ⟨w.heap.size+1,0,none⟩ (.string std)) b s _ from P.out.set_ne 0 (show w.heap.size+1≠b by omega) (.string std))
 replace hB:=hide (show But b w (v1.setCell ⟨w.heap.size+1,0,none⟩ (.string std)) from hB.out.setNew (show w.heap.size≤w.heap.size+1 by omega) (.string std))
 generalize v1.setCell ⟨w.heap.size+1,0,none⟩ (.string std)=v2 at *
 go_wp2_with fail
 refine (H1.out _ P.out).mono ?_
 rintro e v3 ⟨rfl,p1,h1⟩
 replace hR:=hide (hR.out.but h1 (by omega))
 replace hG:=hide (hG.out.but h1 (by omega))
 replace hB:=hide (hB.out.trans h1)
 replace P:=hide p1
 clear h1 p1
 obtain ⟨p1,q1⟩:=ro_cf hG.out 1 _ rfl
 go_upto_region 4 with fail
 clear p1 q1
 replace hG:=hide (show Ro (v3.setCell ⟨w.heap.size+1,1,none⟩ (.int .i64 so)) (w.heap.size+1) #[.string std,.int .i64 so,.bool false,.string ⟨#[]⟩,.int .i64 0,.int .i64 0,.int .i64 0,.int .i64 0,.int .i64 0,.int .i64 0,.int .i64 0,.int .i64 0,.int .i64 0,.int .i64 0,.int .i64 0,.int .i64 0,.int .i64 0] 83 from ro_set hG.out 1 (.int .i64 so))
 replace hR:=hide (ro_set_ne hR.out (show w.heap.size+1≠w.heap.size by omega) 1 (.int .i64 so))
 replace P:=hide (show Pz (v3.setCell ⟨w.heap.size+1,1,none⟩ (.int .i64 so)) b s _ from P.out.set_ne 1 (show w.heap.size+1≠b by omega) (.int .i64 so))
 replace hB:=hide (show But b w (v3.setCell ⟨w.heap.size+1,1,none⟩ (.int .i64 so)) from hB.out.setNew (show w.heap.size≤w.heap.size+1 by omega) (.int .i64 so))
 generalize v3.setCell ⟨w.heap.size+1,1,none⟩ (.int .i64 so)=v4 at *
 go_wp2_with fail
 refine (R.out _ P.out).mono ?_
 rintro e v5 ⟨rfl,h1⟩
 replace P:=hide (P.out.below h1)
 replace hR:=hide (hR.out.below h1)
 replace hG:=hide (hG.out.below h1)
 replace hB:=hide (hB.out.next h1)
 clear h1
 go_wp2_with fail
 refine (HD.out _ _ P.out hG.out (by omega)).mono ?_
 rintro e v6 ⟨rfl,p1,g1,h1⟩
 replace hR:=hide (hR.out.but2 h1 (by omega) (by omega))
 replace hG:=hide g1
 replace P:=hide p1
 replace hB:=hide (hB.out.two h1 (by omega))
 clear p1 g1 h1
 go_wp2_with fail
 refine (R2.out _ P.out).mono ?_
 rintro e v7 ⟨rfl,h1⟩
 replace P:=hide (P.out.below h1)
 replace hR:=hide (hR.out.below h1)
 replace hG:=hide (hG.out.below h1)
 replace hB:=hide (hB.out.next h1)
 clear h1
 obtain ⟨p4,q4⟩:=ro_cf hG.out 4 _ rfl
 go_wp2_with fail
 refine (I.out _).mono ?_
 rintro e v ⟨rfl,rfl⟩
 go_wp2_with fail
 refine (require_no s (k6:Int) b _ P.out).mono ?_
 rintro e v ⟨rfl,rfl⟩
 unfold fail
 go_wp2
 exact ⟨rfl,rfl,hB.out⟩
theorem rule_y (s std dst:ByteArray) (so dof:Int) (b k0 k1 k2 k6 qq:Nat) (st1 st2 st3 st4 st5 st6 en1 en2 en3 en4 en5 en6:Int) (w:World) (hs:s.size≤1000000) (hp:Pz w b s (k0:Int))
 (H0:(∀ w,Pz w b s ((k0:Nat):Int)→Calls Tryz.prog 213 #[.pointer (some ⟨b,0,none⟩)] w fun e w'=>e=.returned (.string std)∧Pz w' b s ((k1:Nat):Int)∧But b w w'))
 (H1:(∀ w,Pz w b s ((k1:Nat):Int)→Calls Tryz.prog 214 #[.pointer (some ⟨b,0,none⟩)] w fun e w'=>e=.returned (.int .i64 so)∧Pz w' b s ((k2:Nat):Int)∧But b w w')) (hk2:k2≤s.size) (hX:(mkS (rst s k2)).toList.isEmpty=false)
 (HD:(∀ g w,Pz w b s (k2:Int)→Ro w g #[.string std,.int .i64 so,.bool false,.string ⟨#[]⟩,.int .i64 0,.int .i64 0,.int .i64 0,.int .i64 0,.int .i64 0,.int .i64 0,.int .i64 0,.int .i64 0,.int .i64 0,.int .i64 0,.int .i64 0,.int .i64 0,.int .i64 0] 83→b≠g→Calls Tryz.prog 216 #[.pointer (some ⟨b,0,none⟩),.pointer (some ⟨g,0,none⟩)] w fun e w'=>e=.returned (.tuple #[])∧Pz w' b s (k6:Int)∧Ro w' g #[.string std,.int .i64 so,.bool true,.string dst,.int .i64 dof,.int .i64 st1,.int .i64 st2,.int .i64 st3,.int .i64 st4,.int .i64 st5,.int .i64 st6,.int .i64 en1,.int .i64 en2,.int .i64 en3,.int .i64 en4,.int .i64 en5,.int .i64 en6] 83∧But2 b g w w')) (hk6:k6≤s.size) (hi:-9223372036854775808≤dof∧dof<9223372036854775808) (hY:mkS (rst s k6)=⟨#[]⟩) (ho:decide (offOk dof)=true) :
 Calls Tryz.prog 186 #[.pointer (some ⟨b,0,none⟩)] w fun e w'=>e=.returned (.agg #[.string std,.int .i64 so,.bool true,.string dst,.int .i64 dof,.int .i64 st1,.int .i64 st2,.int .i64 st3,.int .i64 st4,.int .i64 st5,.int .i64 st6,.int .i64 en1,.int .i64 en2,.int .i64 en3,.int .i64 en4,.int .i64 en5,.int .i64 en6])∧Pz w' b s (k6:Int)∧But b w w':=by
 replace H0:=hide H0
 replace H1:=hide H1
 replace HD:=hide HD
 have R:=hide (fun w hp=>rest_ s k2 b w hs hk2 hp)
 obtain ⟨X,hX2⟩:∃ X,X=mkS (rst s k2):=⟨_,rfl⟩
 rw [← hX2] at R hX
 have x1:X.toList.isEmpty=false:=hX
 clear hX2 hX
 have R2:=hide (fun w hp=>rest_ s k6 b w hs hk6 hp)
 rw [show mkS (rst s k6)=⟨#[]⟩ from hY] at R2
 have I:=hide (fun w=>inRange_ dof w hi.1 hi.2)
 rw [show decide (offOk dof)=true from ho] at I
 have hbl:b<w.heap.size:=hp.1
 have hR:=hide (show Ro ((w.alloc (.cells zA17 83)).alloc (.cells zA17 83)) w.heap.size zA17 83 from (Ro.new w zA17 83).alloc _)
 have hG:=hide (show Ro ((w.alloc (.cells zA17 83)).alloc (.cells zA17 83)) (w.heap.size+1) zA17 83 by have:=Ro.new (w.alloc (.cells zA17 83)) zA17 83;simpa using this)
 have hB:=hide (show But b w ((w.alloc (.cells zA17 83)).alloc (.cells zA17 83)) from ((But.refl b w).alloc _).alloc _)
 have P:=hide (show Pz ((w.alloc (.cells zA17 83)).alloc (.cells zA17 83)) b s _ from (hp.below (bl_new _ _)).below (bl_new _ _))
 clear hp
 go_enter Tryz.func186,Tryz.ntmps186
 go_wp2_with fail
 generalize (w.alloc (.cells zA17 83)).alloc (.cells zA17 83)=v0 at *
 go_wp2_with fail
 refine (H0.out _ P.out).mono ?_
 rintro e v1 ⟨rfl,p1,h1⟩
 replace hR:=hide (hR.out.but h1 (by omega))
 replace hG:=hide (hG.out.but h1 (by omega))
 replace hB:=hide (hB.out.trans h1)
 replace P:=hide p1
 clear h1 p1
 obtain ⟨p0,q0⟩:=ro_cf hG.out 0 _ rfl
 go_upto_region 3 with fail
 clear p0 q0
 replace hG:=hide (show Ro (v1.setCell ⟨w.heap.size+1,0,none⟩ (.string std)) (w.heap.size+1) #[.string std,.int .i64 0,.bool false,.string ⟨#[]⟩,.int .i64 0,.int .i64 0,.int .i64 0,.int .i64 0,.int .i64 0,.int .i64 0,.int .i64 0,.int .i64 0,.int .i64 0,.int .i64 0,.int .i64 0,.int .i64 0,.int .i64 0] 83 from ro_set hG.out 0 (.string std))
 replace hR:=hide (ro_set_ne hR.out (show w.heap.size+1≠w.heap.size by omega) 0 (.string std))
 replace P:=hide (show Pz (v1.setCell ⟨w.heap.size+1,0,none⟩ (.string std)) b s _ from P.out.set_ne 0 (show w.heap.size+1≠b by omega) (.string std))
 replace hB:=hide (show But b w (v1.setCell ⟨w.heap.size+1,0,none⟩ (.string std)) from hB.out.setNew (show w.heap.size≤w.heap.size+1 by omega) (.string std))
 generalize v1.setCell ⟨w.heap.size+1,0,none⟩ (.string std)=v2 at *
 go_wp2_with fail
 refine (H1.out _ P.out).mono ?_
 rintro e v3 ⟨rfl,p1,h1⟩
 replace hR:=hide (hR.out.but h1 (by omega))
 replace hG:=hide (hG.out.but h1 (by omega))
 replace hB:=hide (hB.out.trans h1)
 replace P:=hide p1
 clear h1 p1
 obtain ⟨p1,q1⟩:=ro_cf hG.out 1 _ rfl
 go_upto_region 4 with fail
 clear p1 q1
 replace hG:=hide (show Ro (v3.setCell ⟨w.heap.size+1,1,none⟩ (.int .i64 so)) (w.heap.size+1) #[.string std,.int .i64 so,.bool false,.string ⟨#[]⟩,.int .i64 0,.int .i64 0,.int .i64 0,.int .i64 0,.int .i64 0,.int .i64 0,.int .i64 0,.int .i64 0,.int .i64 0,.int .i64 0,.int .i64 0,.int .i64 0,.int .i64 0] 83 from ro_set hG.out 1 (.int .i64 so))
 replace hR:=hide (ro_set_ne hR.out (show w.heap.size+1≠w.heap.size by omega) 1 (.int .i64 so))
 replace P:=hide (show Pz (v3.setCell ⟨w.heap.size+1,1,none⟩ (.int .i64 so)) b s _ from P.out.set_ne 1 (show w.heap.size+1≠b by omega) (.int .i64 so))
 replace hB:=hide (show But b w (v3.setCell ⟨w.heap.size+1,1,none⟩ (.int .i64 so)) from hB.out.setNew (show w.heap.size≤w.heap.size+1 by omega) (.int .i64 so))
 generalize v3.setCell ⟨w.heap.size+1,1,none⟩ (.int .i64 so)=v4 at *
 go_wp2_with fail
 refine (R.out _ P.out).mono ?_
 rintro e v5 ⟨rfl,h1⟩
 replace P:=hide (P.out.below h1)
 replace hR:=hide (hR.out.below h1)
 replace hG:=hide (hG.out.below h1)
 replace hB:=hide (hB.out.next h1)
 clear h1
 go_wp2_with fail
 refine (HD.out _ _ P.out hG.out (by omega)).mono ?_
 rintro e v6 ⟨rfl,p1,g1,h1⟩
 replace hR:=hide (hR.out.but2 h1 (by omega) (by omega))
 replace hG:=hide g1
 replace P:=hide p1
 replace hB:=hide (hB.out.two h1 (by omega))
 clear p1 g1 h1
 go_wp2_with fail
 refine (R2.out _ P.out).mono ?_
 rintro e v7 ⟨rfl,h1⟩
 replace P:=hide (P.out.below h1)
 replace hR:=hide (hR.out.below h1)
 replace hG:=hide (hG.out.below h1)
 replace hB:=hide (hB.out.next h1)
 clear h1
 obtain ⟨p4,q4⟩:=ro_cf hG.out 4 _ rfl
 go_wp2_with fail
 refine (I.out _).mono ?_
 rintro e v ⟨rfl,rfl⟩
 go_wp2_with fail
 refine (require_yes b _).mono ?_
 rintro e v ⟨rfl,rfl⟩
 clear p4 q4
 have G:Gr Tryz.prog 83 17 #[.string std,.int .i64 so,.bool true,.string dst,.int .i64 dof,.int .i64 st1,.int .i64 st2,.int .i64 st3,.int .i64 st4,.int .i64 st5,.int .i64 st6,.int .i64 en1,.int .i64 en2,.int .i64 en3,.int .i64 en4,.int .i64 en5,.int .i64 en6]:=⟨by rw [show (#[.string std,.int .i64 so,.bool true,.string dst,.int .i64 dof,.int .i64 st1,.int .i64 st2,.int .i64 st3,.int .i64 st4,.int .i64 st5,.int .i64 st6,.int .i64 en1,.int .i64 en2,.int .i64 en3,.int .i64 en4,.int .i64 en5,.int .i64 en6]:Array Value).size=17 from rfl];kernel_rfl,rfl,by simp [Value.oneCell']⟩
 generalize hcs:(#[.string std,.int .i64 so,.bool true,.string dst,.int .i64 dof,.int .i64 st1,.int .i64 st2,.int .i64 st3,.int .i64 st4,.int .i64 st5,.int .i64 st6,.int .i64 en1,.int .i64 en2,.int .i64 en3,.int .i64 en4,.int .i64 en5,.int .i64 en6]:Array Value)=cs at *
 have G1:=G.1
 have G2:=G.2.2
 have zs:(zA17:Array Value).size=cs.size:=by rw [G.2.1];rfl
 go_wp2_with (first | (refine wpList_store_row rfl 83 _ _ rfl _ _ rfl rfl _ _ hR.out G1 zs G2 ?_) | (refine load_row_g (by rfl) 83 _ rfl _ rfl _ _ _ hG.out Tryz.underlying83 rfl G1 ?_))
 have hl:=((ro_row hR.out cs).load 83 _ Tryz.underlying83 rfl G1).2
 exact bodyPost_ret (results_c Tryz.results186 rfl hl) rfl ⟨by rw [← hcs],P.out.row (by omega) _,hB.out.row (by omega) _⟩
end po_
theorem rst_end {s:ByteArray} {k:Nat} (h:k=s.size):mkS (rst s k)=⟨#[]⟩:=by
 rw [show rst s k=[] from List.length_eq_zero_iff.1 (by rw [rst_len];omega)]
 rfl
theorem rst_more {s:ByteArray} {k:Nat} (h:k<s.size):(mkS (rst s k)).toList.isEmpty=false:=by
 have hne:¬ mkS (rst s k)=⟨#[]⟩:=by intro e;have:=congrArg ByteArray.size e;rw [size_mk,rst_len] at this;change s.size - k=0 at this;omega
 have hne2:=seq_ne hne
 rcases q:(mkS (rst s k)).toList with _ | _
 ·rw [q,show (⟨#[]⟩:ByteArray).toList=[] by simp] at hne2;exact absurd hne2 (by decide)
 ·rfl
namespace po_
section
variable {s:ByteArray} {b k:Nat} (hs:s.size≤1000000) (hk:k≤s.size)
include hs hk
theorem des_yes {q:List UInt8} {n:Nat} (h:tnParse (rst s k)=some (q,n)) (w:World) (hp:Pz w b s (k:Int)) :
 Calls Tryz.prog 213 #[.pointer (some ⟨b,0,none⟩)] w fun e w'=>e=.returned (.string (mkS q))∧Pz w' b s ((k+n:Nat):Int)∧But b w w' :=
 (designation_yes s k b q n w hs hk hp h).mono fun e w' h=>⟨h.1,h.2.1.cast (by omega),h.2.2⟩
theorem des_no (h:tnParse (rst s k)=none) (w:World) (hp:Pz w b s (k:Int)) :
 Calls Tryz.prog 213 #[.pointer (some ⟨b,0,none⟩)] w fun e w'=>e=fail (k:Int)∧But b w w' :=
 (designation_no s k b w hs hk hp h).mono fun e w' h=>⟨h.1,.of h.2⟩
theorem off_yes {v:Int} {n:Nat} (h:hmsParse (rst s k)=some (v,n)) (ho:offOk v) (w:World) (hp:Pz w b s (k:Int)) :
 Calls Tryz.prog 214 #[.pointer (some ⟨b,0,none⟩)] w fun e w'=>e=.returned (.int .i64 (-v))∧Pz w' b s ((k+n:Nat):Int)∧But b w w' :=
 (offset_yes s k b v n w hs hk hp h ho).mono fun e w' h=>⟨h.1,h.2.1.cast (by omega),h.2.2⟩
theorem off_no (h:hmsParse (rst s k)=none∨∃ v n,hmsParse (rst s k)=some (v,n)∧¬ offOk v) (w:World) (hp:Pz w b s (k:Int)) :
 Calls Tryz.prog 214 #[.pointer (some ⟨b,0,none⟩)] w fun e w'=>e=fail (k:Int)∧But b w w' :=
 (offset_no s k b w hs hk hp h).mono fun e w' h=>⟨h.1,.of h.2⟩
theorem com_yes {t:List UInt8} (h:rst s k=44 :: t) (w:World) (hp:Pz w b s (k:Int)) :
 Calls Tryz.prog 241 #[.pointer (some ⟨b,0,none⟩),.string ⟨#[44]⟩] w fun e w'=>e=.returned (.tuple #[])∧Pz w' b s ((k+1:Nat):Int)∧But b w w' :=
 (expect_yes s k b 44 t w hs hk hp h).mono fun e w' h=>⟨h.1,h.2.1.cast (by omega),h.2.2⟩
theorem com_no (h:(rst s k).head?≠some 44) (w:World) (hp:Pz w b s (k:Int)) :
 Calls Tryz.prog 241 #[.pointer (some ⟨b,0,none⟩),.string ⟨#[44]⟩] w fun e w'=>e=fail (k:Int)∧But b w w' :=
 (expect_no s k b 44 w hs hk hp h).mono fun e w' h=>⟨h.1,.of h.2⟩
end
def ComOk (s:ByteArray) (b k c:Nat) (d:RD):Prop :=
 (∀ w,Pz w b s (k:Int)→Calls Tryz.prog 241 #[.pointer (some ⟨b,0,none⟩),.string ⟨#[44]⟩] w fun e w'=>e=.returned (.tuple #[])∧Pz w' b s ((k+1:Nat):Int)∧But b w w') ∧
 (∀ w,Pz w b s ((k+1:Nat):Int)→Calls Tryz.prog 242 #[.pointer (some ⟨b,0,none⟩)] w fun e w'=>e=.returned (.agg (rdc d))∧Pz w' b s (c:Int)∧But b w w')∧c≤s.size
def ComNo (s:ByteArray) (b k x:Nat):Prop :=
 (∀ w,Pz w b s (k:Int)→Calls Tryz.prog 241 #[.pointer (some ⟨b,0,none⟩),.string ⟨#[44]⟩] w fun e w'=>e=fail (x:Int)∧But b w w') ∨
 (∀ w,Pz w b s (k:Int)→Calls Tryz.prog 241 #[.pointer (some ⟨b,0,none⟩),.string ⟨#[44]⟩] w fun e w'=>e=.returned (.tuple #[])∧Pz w' b s ((k+1:Nat):Int)∧But b w w') ∧
 (∀ w,Pz w b s ((k+1:Nat):Int)→Calls Tryz.prog 242 #[.pointer (some ⟨b,0,none⟩)] w fun e w'=>e=fail (x:Int)∧But b w w')
theorem com_ (s:ByteArray) (b k:Nat) (hs:s.size≤1000000) (hk:k≤s.size) :
 match ptComma (byt s) k with
 | .error x=>ComNo s b k x
 | .ok (d,c)=>ComOk s b k c d:=by
 have hl:=rst_len s k
 have A:=rst_add s k
 unfold ptComma
 rcases hr:(byt s).drop k with _ | ⟨c,t⟩ <;> (have hr:rst s k=_:=hr)
 ·exact Or.inl (com_no hs hk (by rw [hr];simp))
 ·rw [hr] at A
  rw [hr,List.length_cons] at hl
  have A1:rst s (k+1)=t:=by rw [A];rfl
  dsimp only
  by_cases h44:(c.toNat:Int)=44
  ·have hc:c=44:=u8_of h44
   subst hc
   simp only [h44,if_true]
   rcases hd:ptDay t with _ | ⟨⟨a,e,m,z,f,v⟩,n⟩
   ·exact Or.inr ⟨com_yes hs hk hr,fun w hp=>change_no s (k+1) b w hs (by omega) hp (by rw [A1];exact hd)⟩
   ·have hb:=ptDay_some hd
    exact ⟨com_yes hs hk hr,fun w hp=>change_yes s (k+1) b w hs (by omega) hp a e m z f v n (by rw [A1];exact hd) (by omega),by omega⟩
  ·simp only [h44,if_false]
   exact Or.inl (com_no hs hk (by rw [hr];intro e;apply h44;simp at e;rw [e];rfl))
def rowF (std:ByteArray) (so:Int):Array Value:=#[.string std,.int .i64 so,.bool false,.string ⟨#[]⟩,.int .i64 0,.int .i64 0,.int .i64 0,.int .i64 0,.int .i64 0,.int .i64 0,.int .i64 0,.int .i64 0,.int .i64 0,.int .i64 0,.int .i64 0,.int .i64 0,.int .i64 0]
theorem days_ (s std dst:ByteArray) (so dof:Int) (b k0 k1 k2:Nat) (hs:s.size≤1000000) (hk2:k2≤s.size) (stl dsl:List UInt8)
 (H0:∀ w,Pz w b s (k0:Int)→Calls Tryz.prog 213 #[.pointer (some ⟨b,0,none⟩)] w fun e w'=>e=.returned (.string dst)∧Pz w' b s (k1:Int)∧But b w w')
 (H1:∀ w,Pz w b s (k1:Int)→Calls Tryz.prog 240 #[.pointer (some ⟨b,0,none⟩),.int .i64 so] w fun e w'=>e=.returned (.int .i64 dof)∧Pz w' b s (k2:Int)∧But b w w') :
 (∃ x:Nat,(∀ g w,Pz w b s (k0:Int)→Ro w g (rowF std so) 83→b≠g→Calls Tryz.prog 216 #[.pointer (some ⟨b,0,none⟩),.pointer (some ⟨g,0,none⟩)] w fun e w'=>e=fail (x:Int)∧But2 b g w w')∧ptDays (byt s) k2 stl so dsl dof=.error x) ∨
 (∃ (st en:RD) (c:Nat),(∀ g w,Pz w b s (k0:Int)→Ro w g (rowF std so) 83→b≠g→Calls Tryz.prog 216 #[.pointer (some ⟨b,0,none⟩),.pointer (some ⟨g,0,none⟩)] w fun e w'=>e=.returned (.tuple #[])∧Pz w' b s (c:Int)∧Ro w' g (crule std so true dst dof st en) 83∧But2 b g w w')∧c≤s.size ∧
   ptDays (byt s) k2 stl so dsl dof=if c=s.size∧offOk dof then .ok (stl,so,true,dsl,dof,st,en) else .error c):=by
 have C1:=com_ s b k2 hs hk2
 unfold ptDays
 rcases h1:ptComma (byt s) k2 with x | ⟨⟨s1,s2,s3,s4,s5,s6⟩,c1⟩
 ·rw [h1] at C1
  rcases C1 with C1 | ⟨C1,C2⟩
  ·exact .inl ⟨x,fun g w hp hg hne=>dayl_2 s std dst so dof b g k0 k1 k2 0 0 0 0 x 0 0 0 0 0 0 0 0 0 0 0 0 w hp hg hne H0 H1 C1,rfl⟩
  ·exact .inl ⟨x,fun g w hp hg hne=>dayl_3 s std dst so dof b g k0 k1 k2 (k2+1) 0 0 0 x 0 0 0 0 0 0 0 0 0 0 0 0 w hp hg hne H0 H1 C1 C2,rfl⟩
 ·rw [h1] at C1
  obtain ⟨C1,C2,hc1⟩:=C1
  have D1:=com_ s b c1 hs hc1
  dsimp only
  rcases h2:ptComma (byt s) c1 with x | ⟨⟨e1,e2,e3,e4,e5,e6⟩,c2⟩
  ·rw [h2] at D1
   rcases D1 with D1 | ⟨D1,D2⟩
   ·exact .inl ⟨x,fun g w hp hg hne=>dayl_4 s std dst so dof b g k0 k1 k2 (k2+1) c1 0 0 x s1 s2 s3 s4 s5 s6 0 0 0 0 0 0 w hp hg hne H0 H1 C1 C2 D1,rfl⟩
   ·exact .inl ⟨x,fun g w hp hg hne=>dayl_5 s std dst so dof b g k0 k1 k2 (k2+1) c1 (c1+1) 0 x s1 s2 s3 s4 s5 s6 0 0 0 0 0 0 w hp hg hne H0 H1 C1 C2 D1 D2,rfl⟩
  ·rw [h2] at D1
   obtain ⟨D1,D2,hc2⟩:=D1
   exact .inr ⟨(s1,s2,s3,s4,s5,s6),(e1,e2,e3,e4,e5,e6),c2,fun g w hp hg hne=>dayl_ok s std dst so dof b g k0 k1 k2 (k2+1) c1 (c1+1) c2 0 s1 s2 s3 s4 s5 s6 e1 e2 e3 e4 e5 e6 w hp hg hne H0 H1 C1 C2 D1 D2,hc2,by dsimp only;rw [len_byt]⟩
end po_
def rrc (r:PR):Array Value:=crule (mkS r.1) r.2.1 r.2.2.1 (mkS r.2.2.2.1) r.2.2.2.2.1 r.2.2.2.2.2.1 r.2.2.2.2.2.2
namespace po_
theorem rule_ (s:ByteArray) (b:Nat) (w:World) (hs:s.size≤1000000) (hp:Pz w b s ((0:Nat):Int)) :
 match ptParse (byt s) with
 | .error x=>Calls Tryz.prog 186 #[.pointer (some ⟨b,0,none⟩)] w fun e w'=>e=fail (x:Int)∧But b w w'
 | .ok r=>Calls Tryz.prog 186 #[.pointer (some ⟨b,0,none⟩)] w fun e w'=>e=.returned (.agg (rrc r))∧But b w w':=by
 have ln:(byt s).length=s.size:=len_byt s
 unfold ptParse
 rcases h1:tnParse (byt s) with _ | ⟨std,n⟩
 ·exact rule_0 s ⟨#[]⟩ ⟨#[]⟩ 0 0 b 0 0 0 0 0 0 0 0 0 0 0 0 0 0 0 0 0 w hs hp (des_no hs (by omega) (k:=0) h1)
 have a1:=tnParse_some h1
 have H0:∀ w,Pz w b s ((0:Nat):Int)→Calls Tryz.prog 213 #[.pointer (some ⟨b,0,none⟩)] w fun e w'=>e=.returned (.string (mkS std))∧Pz w' b s (n:Int)∧But b w w':=by
  have:=des_yes (b:=b) hs (k:=0) (by omega) (q:=std) (n:=n) h1
  rwa [Nat.zero_add] at this
 have hn:n≤s.size:=by omega
 dsimp only
 rcases h2:hmsParse ((byt s).drop n) with _ | ⟨v,m⟩
 ·exact rule_1 s (mkS std) ⟨#[]⟩ 0 0 b 0 n 0 0 n 0 0 0 0 0 0 0 0 0 0 0 0 w hs hp H0 (off_no hs hn (.inl h2))
 dsimp only
 by_cases ho:offOk v
 rotate_left
 ·rw [if_neg ho]
  exact rule_1 s (mkS std) ⟨#[]⟩ 0 0 b 0 n 0 0 n 0 0 0 0 0 0 0 0 0 0 0 0 w hs hp H0 (off_no hs hn (.inr ⟨v,m,h2,ho⟩))
 rw [if_pos ho]
 have hv:-89999≤v∧v≤89999:=ho
 have a2:=parse_prefix h2
 rw [List.length_drop] at a2
 have H1:=off_yes (b:=b) hs hn h2 ho
 have hm:n+m≤s.size:=by omega
 by_cases he:n+m=(byt s).length
 ·rw [if_pos he]
  refine (rule_s s (mkS std) ⟨#[]⟩ (-v) 0 b 0 n (n+m) 0 0 0 0 0 0 0 0 0 0 0 0 0 0 w hs hp H0 H1 hm (rst_end (by omega))).mono ?_
  rintro e w' ⟨h,_,hb⟩
  exact ⟨h,hb⟩
 rw [if_neg he]
 have hX:=rst_more (s:=s) (k:=n+m) (by omega)
 rcases h3:tnParse ((byt s).drop (n+m)) with _ | ⟨dst,n2⟩
 ·refine rule_df s (mkS std) ⟨#[]⟩ (-v) 0 b 0 n (n+m) 0 (n+m) 0 0 0 0 0 0 0 0 0 0 0 0 w hs hp H0 H1 hm hX ?_
  exact fun g w hp hg hne=>dayl_0 s (mkS std) ⟨#[]⟩ (-v) 0 b g (n+m) 0 0 0 0 0 0 (n+m) 0 0 0 0 0 0 0 0 0 0 0 0 w hp hg hne (des_no hs hm h3)
 have a3:=tnParse_some h3
 rw [List.length_drop] at a3
 have G0:=des_yes (b:=b) hs hm h3
 have hn2:n+m+n2≤s.size:=by omega
 dsimp only
 -- the days,whatever the offset is
 have fin:∀ (dof:Int) (k2:Nat) (hk2:k2≤s.size) (hi:-9223372036854775808≤dof∧dof<9223372036854775808)
  (G1:∀ w,Pz w b s ((n+m+n2:Nat):Int)→Calls Tryz.prog 240 #[.pointer (some ⟨b,0,none⟩),.int .i64 (-v)] w fun e w'=>e=.returned (.int .i64 dof)∧Pz w' b s (k2:Int)∧But b w w'),
  match ptDays (byt s) k2 std (-v) dst dof with
  | .error x=>Calls Tryz.prog 186 #[.pointer (some ⟨b,0,none⟩)] w fun e w'=>e=fail (x:Int)∧But b w w'
  | .ok r=>Calls Tryz.prog 186 #[.pointer (some ⟨b,0,none⟩)] w fun e w'=>e=.returned (.agg (rrc r))∧But b w w':=by
  intro dof k2 hk2 hi G1
  rcases days_ s (mkS std) (mkS dst) (-v) dof b (n+m) (n+m+n2) k2 hs hk2 std dst G0 G1 with ⟨x,hD,hE⟩ | ⟨⟨s1,s2,s3,s4,s5,s6⟩,⟨e1,e2,e3,e4,e5,e6⟩,c,hD,hc,hE⟩
  ·rw [hE]
   exact rule_df s (mkS std) ⟨#[]⟩ (-v) 0 b 0 n (n+m) 0 x 0 0 0 0 0 0 0 0 0 0 0 0 w hs hp H0 H1 hm hX hD
  ·rw [hE]
   by_cases hq:c=s.size∧offOk dof
   ·rw [if_pos hq]
    refine (rule_y s (mkS std) (mkS dst) (-v) dof b 0 n (n+m) c 0 s1 s2 s3 s4 s5 s6 e1 e2 e3 e4 e5 e6 w hs hp H0 H1 hm hX hD hc hi (rst_end hq.1) (decide_eq_true hq.2)).mono ?_
    rintro e w' ⟨h,_,hb⟩
    exact ⟨h,hb⟩
   ·rw [if_neg hq]
    by_cases hz:c=s.size
    ·exact rule_n s (mkS std) (mkS dst) (-v) dof b 0 n (n+m) c 0 s1 s2 s3 s4 s5 s6 e1 e2 e3 e4 e5 e6 w hs hp H0 H1 hm hX hD hc hi (rst_end hz) (decide_eq_false fun h=>hq ⟨hz,h⟩)
    ·exact rule_r s (mkS std) (mkS dst) (-v) dof b 0 n (n+m) c 0 s1 s2 s3 s4 s5 s6 e1 e2 e3 e4 e5 e6 w hs hp H0 H1 hm hX hD hc (rst_more (by omega))
 rcases h4:hmsParse ((byt s).drop (n+m+n2)) with _ | ⟨v2,m2⟩
 ·exact fin (-v+3600) (n+m+n2) hn2 (by omega) (fun w hp=>dsto_d s (n+m+n2) b (-v) w hs hn2 hp h4 (by unfold offOk;omega))
 have a4:=parse_prefix h4
 rw [List.length_drop] at a4
 dsimp only
 by_cases ho2:offOk v2
 ·rw [if_pos ho2]
  have hv2:-89999≤v2∧v2≤89999:=ho2
  exact fin (-v2) (n+m+n2+m2) (by omega) (by omega) (fun w hp=>dsto_y s (n+m+n2) b (-v) v2 m2 w hs hn2 hp h4 ho2)
 ·rw [if_neg ho2]
  refine rule_df s (mkS std) ⟨#[]⟩ (-v) 0 b 0 n (n+m) 0 (n+m+n2) 0 0 0 0 0 0 0 0 0 0 0 0 w hs hp H0 H1 hm hX ?_
  exact fun g w hp hg hne=>dayl_1 s (mkS std) (mkS dst) (-v) 0 b g (n+m) (n+m+n2) 0 0 0 0 0 (n+m+n2) 0 0 0 0 0 0 0 0 0 0 0 0 w hp hg hne G0 (fun w hp=>dsto_n s (n+m+n2) b (-v) v2 m2 w hs hn2 hp h4 ho2)
def z17:Array Value:=zA17
theorem gr_rrc (r:PR):Gr Tryz.prog 83 17 (rrc r):=gr_rule _ _ _ _ _ _ _
theorem parse1_yes (s:ByteArray) (r:PR) (b g p:Nat) (w:World) (hs:s.size≤1000000) (hp:Pz w b s ((0:Nat):Int)) (hv:Bx w p [.pointer (some ⟨b,0,none⟩)]) (hg:Ro w g z17 83) (h1:b≠g) (h2:p≠b) (h3:p≠g) (hd:ptParse (byt s)=.ok r) :
 Calls Tryz.prog 185 #[.pointer (some ⟨p,0,none⟩),.pointer (some ⟨g,0,none⟩)] w fun e w'=>e=.returned (.tuple #[])∧Ro w' g (rrc r) 83∧But2 b g w w':=by
 have D:=hide (fun w hp=>rule_ s b w hs hp)
 simp only [hd] at D
 have G:=gr_rrc r
 have P:=hide hp
 have hD:=hide hg
 have c0:=hv.2.1 0 _ rfl
 have e0:z17.size=(rrc r).size:=rfl
 generalize rrc r=cs at *
 generalize z17=z at *
 clear hp hg hv hd
 go_enter Tryz.func185,Tryz.ntmps185
 go_wp2_with fail
 refine (D.out _ P.out).mono ?_
 rintro e w1 ⟨rfl,hb⟩
 replace hD:=hide (hD.out.but hb (by omega))
 clear c0 P
 go_wp2_with (refine wpList_store_row rfl 83 _ _ rfl _ _ rfl rfl _ _ hD.out G.1 e0 G.2.2 ?_)
 go_end0
 exact ⟨rfl,ro_row hD.out _,(But2.one hb).row (.inr (.inl rfl)) _⟩
theorem parse1_no (s:ByteArray) (x b g p:Nat) (w:World) (hs:s.size≤1000000) (hp:Pz w b s ((0:Nat):Int)) (hv:Bx w p [.pointer (some ⟨b,0,none⟩)]) (hd:ptParse (byt s)=.error x) :
 Calls Tryz.prog 185 #[.pointer (some ⟨p,0,none⟩),.pointer (some ⟨g,0,none⟩)] w fun e w'=>e=fail (x:Int)∧But2 b g w w':=by
 have D:=hide (fun w hp=>rule_ s b w hs hp)
 simp only [hd] at D
 have P:=hide hp
 have c0:=hv.2.1 0 _ rfl
 clear hp hv hd
 go_enter Tryz.func185,Tryz.ntmps185
 go_wp2_with fail
 refine (D.out _ P.out).mono ?_
 rintro e w1 ⟨rfl,hb⟩
 unfold fail
 go_wp2
 exact ⟨rfl,rfl,But2.one hb⟩
theorem Parse_no (s:ByteArray) (x:Nat) (w:World) (hs:s.size≤1000000) (hd:ptParse (byt s)=.error x):Calls Tryz.prog 134 #[.string s] w fun e w'=>e=.returned (.tuple #[.agg z17,.int .i64 14,.int .i64 x])∧Below w.heap.size w w':=by
 have hmf:∀ (fn:Fn) (first cap:Array Value) (w:World),(Instr.makeFunc fn first cap).run Tryz.prog w=.ok (.func fn first cap) w:=fun _ _ _ _=>rfl
 obtain ⟨W,hW⟩:∃ W,W=(((w.alloc (.cells z17 83)).alloc (.cells #[.string s,.int .i64 0] 216)).alloc (.cells #[.pointer (some ⟨w.heap.size+1,0,none⟩)] 214)).alloc (.cells z17 83):=⟨_,rfl⟩
 obtain ⟨h1,h2,h3,h4,h5,h6⟩:=laid4 w _ _ _ _ s W hW
 have A:=attempt_at 185 (w.heap.size+1) (w.heap.size+1+1+1) x #[.pointer (some ⟨w.heap.size+1+1,0,none⟩),.pointer (some ⟨w.heap.size+1+1+1,0,none⟩)] W (enters Tryz.func185 (by kernel_rfl) (by kernel_rfl))
  (fun w1 hb=>parse1_no s x _ _ _ w1 hs (h2.below hb) (h3.below hb) hd) (by omega) (by omega)
 have G:Gr Tryz.prog 83 17 zA17:=gr_rule ⟨#[]⟩ 0 false ⟨#[]⟩ 0 rd0 rd0
 replace A:=hide A
 replace h5:=hide h5
 clear h2 h3 h4 hd
 simp only [z17] at hW
 go_enter Tryz.func134,Tryz.ntmps134
 go_wp2_with fail
 rw [← hW]
 refine A.out.mono ?_
 rintro e w1 ⟨rfl,hb⟩
 have hR:=hide (h5.out.but2 hb (by omega) (by omega))
 have hB:=hide (h1.trans (hb.below (B:=w.heap.size) (by omega) (by omega) (by omega)))
 clear h5 hb h1 A hW h6
 have hz:z17.size=(zA17:Array Value).size:=rfl
 go_wp2_with (refine wpList_store_row rfl 83 _ _ rfl _ _ rfl rfl _ _ hR.out G.1 hz G.2.2 ?_)
 have hl:=((ro_row hR.out zA17).load 83 _ Tryz.underlying83 rfl G.1).2
 exact bodyPost_ret (results_c12 (v:=.agg zA17) (x:=.int .i64 14) (y:=.int .i64 (x:Int)) Tryz.results134 rfl rfl rfl hl) rfl ⟨rfl,bl_row hB.out (Nat.le_refl _) _⟩
theorem Parse_yes (s:ByteArray) (r:PR) (w:World) (hs:s.size≤1000000) (hd:ptParse (byt s)=.ok r):Calls Tryz.prog 134 #[.string s] w fun e w'=>e=.returned (.tuple #[.agg (rrc r),.int .i64 0,.int .i64 0])∧Below w.heap.size w w':=by
 have hmf:∀ (fn:Fn) (first cap:Array Value) (w:World),(Instr.makeFunc fn first cap).run Tryz.prog w=.ok (.func fn first cap) w:=fun _ _ _ _=>rfl
 obtain ⟨W,hW⟩:∃ W,W=(((w.alloc (.cells z17 83)).alloc (.cells #[.string s,.int .i64 0] 216)).alloc (.cells #[.pointer (some ⟨w.heap.size+1,0,none⟩)] 214)).alloc (.cells z17 83):=⟨_,rfl⟩
 obtain ⟨h1,h2,h3,h4,h5,h6⟩:=laid4 w _ _ _ _ s W hW
 have A:=attempt_yes 185 (w.heap.size+1) (w.heap.size+1+1+1) #[.pointer (some ⟨w.heap.size+1+1,0,none⟩),.pointer (some ⟨w.heap.size+1+1+1,0,none⟩)] (fun w'=>Ro w' (w.heap.size+1+1+1) (rrc r) 83) W (enters Tryz.func185 (by kernel_rfl) (by kernel_rfl))
  (fun w1 hb=>parse1_yes s r _ _ _ w1 hs (h2.below hb) (h3.below hb) (h4.below hb) (by omega) (by omega) (by omega) hd) (fun w2 q o v hq h=>ro_set_ne h (by omega) o v) (by omega) (by omega)
 have G:=gr_rrc r
 have zs:z17.size=(rrc r).size:=rfl
 generalize rrc r=cs at *
 replace A:=hide A
 replace h5:=hide h5
 clear h2 h3 h4 hd
 obtain ⟨z,hz⟩:∃ z,z=z17:=⟨_,rfl⟩
 rw [← hz] at h5 zs
 simp only [z17] at hW
 clear hz
 go_enter Tryz.func134,Tryz.ntmps134
 go_wp2_with fail
 rw [← hW]
 refine A.out.mono ?_
 rintro e w1 ⟨rfl,hD,hb⟩
 have hR:=hide (h5.out.but2 hb (by omega) (by omega))
 replace hD:=hide hD
 have hB:=hide (h1.trans (hb.below (B:=w.heap.size) (by omega) (by omega) (by omega)))
 clear h5 hb h1 A hW h6
 go_wp2_with (first | (refine wpList_store_row rfl 83 _ _ rfl _ _ rfl rfl _ _ hR.out G.1 zs G.2.2 ?_) | (refine load_row_g (by rfl) 83 _ rfl _ rfl _ _ _ hD.out Tryz.underlying83 rfl G.1 ?_))
 have hl:=((ro_row hR.out cs).load 83 _ Tryz.underlying83 rfl G.1).2
 exact bodyPost_ret (results_c12 Tryz.results134 rfl rfl rfl hl) rfl ⟨rfl,bl_row hB.out (Nat.le_refl _) _⟩
theorem Parse (s:ByteArray) (w:World) (hs:s.size≤1000000):Calls Tryz.prog 134 #[.string s] w fun e w'=>e=.returned (ptRes (ptParse (byt s)))∧Below w.heap.size w w':=by
 rcases h:ptParse (byt s) with x | r
 ·exact Parse_no s x w hs h
 ·exact Parse_yes s r w hs h
end po_
namespace po_
end po_
end Go.Proofs.YtpapfpcehlhgeaaGreatDoor

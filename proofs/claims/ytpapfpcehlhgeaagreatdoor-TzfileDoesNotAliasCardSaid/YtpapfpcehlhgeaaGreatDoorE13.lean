/-
  Texts of mine in one file: Tec. Their conditions stand in the theorems.
-/
import Derived.Test.YtpapfpcehlhgeaaGreatDoorE12
namespace Go.Proofs.YtpapfpcehlhgeaaGreatDoor
set_option linter.unusedVariables false
set_option linter.unusedSimpArgs false
set_option maxRecDepth 100000
set_option maxHeartbeats 16000000
open Go.ChangeShapes Go.WideShapes Go.ChangeAt Go.RowKit
namespace te_
theorem changes_ (cs:Array Value) (G:(Tryz.prog.info? 83).map (·.size)=some cs.size) (f l:Int) (w:World):Calls Tryz.prog 245 #[.agg cs,.int .i64 f,.int .i64 l] w fun e w'=>e=.returned (.func (.func 268) #[] #[.pointer (some ⟨w.heap.size+1,0,none⟩),.pointer (some ⟨w.heap.size+1+1,0,none⟩),.pointer (some ⟨w.heap.size,0,none⟩)]) ∧
 Ro w' w.heap.size cs 83∧Ro w' (w.heap.size+1) #[.int .i64 f] 3∧Ro w' (w.heap.size+1+1) #[.int .i64 l] 3∧Below w.heap.size w w':=by
 have hmf:∀ (fn:Fn) (first cap:Array Value) (w:World),(Instr.makeFunc fn first cap).run Tryz.prog w=.ok (.func fn first cap) w:=fun _ _ _ _=>rfl
 go_enter Tryz.func245,Tryz.ntmps245
 go_wp2
 go_ret
 refine ⟨rfl,((Ro.new w cs 83).alloc _).alloc _,?_,?_,bl_alloc (bl_alloc (bl_new _ _) _) _⟩
 ·have:=(Ro.new (w.alloc (.cells cs 83)) #[.int .i64 f] 3).alloc (.cells #[.int .i64 l] 3)
  simpa using this
 ·have:=Ro.new ((w.alloc (.cells cs 83)).alloc (.cells #[.int .i64 f] 3)) #[.int .i64 l] 3
  simpa using this
theorem result_ (off:Int) (d:Bool) (s:ByteArray) (w:World) (hs:s.size≤1000000):Calls Tryz.prog 221 #[.int .i64 off,.bool d,.string s] w fun e w'=>e=.returned (.agg #[.bool true,.int .i64 off,.bool d,.string s])∧Below w.heap.size w w':=by
 have C:=hide (fun w=>go_.Clone s w (by omega))
 have hb:=hide (bl_new w (.cells #[.bool false,.int .i64 0,.bool false,.string ⟨#[]⟩] 90))
 have hR:=hide (Ro.new w #[.bool false,.int .i64 0,.bool false,.string ⟨#[]⟩] 90)
 go_enter Tryz.func221,Tryz.ntmps221
 go_upto_region 1 with fail
 generalize w.alloc (.cells #[.bool false,.int .i64 0,.bool false,.string ⟨#[]⟩] 90)=u at *
 go_wp2_with fail
 refine (C.out _).mono ?_
 rintro e w6 ⟨rfl,h6⟩
 replace hR:=hide (hR.out.below h6)
 replace hb:=hide (bel_next hb.out h6)
 clear h6
 obtain ⟨x0,z0⟩:=ro_cf hR.out 0 (.bool false) rfl
 obtain ⟨x1,z1⟩:=ro_cf hR.out 1 (.int .i64 0) rfl
 obtain ⟨x2,z2⟩:=ro_cf hR.out 2 (.bool false) rfl
 obtain ⟨x3,z3⟩:=ro_cf hR.out 3 (.string ⟨#[]⟩) rfl
 go_wp2_with fail
 have r4:Ro ((((w6.setCell ⟨w.heap.size,0,none⟩ (.bool true)).setCell ⟨w.heap.size,1,none⟩ (.int .i64 off)).setCell ⟨w.heap.size,2,none⟩ (.bool d)).setCell ⟨w.heap.size,3,none⟩ (.string s)) w.heap.size #[.bool true,.int .i64 off,.bool d,.string s] 90:=by
  have:=ro_set (ro_set (ro_set (ro_set hR.out 0 (.bool true)) 1 (.int .i64 off)) 2 (.bool d)) 3 (.string s)
  simpa using this
 have hb2:=bl_set4' (a:=.bool true) (b:=.int .i64 off) (c:=.bool d) (d:=.string s) hb.out (g:=w.heap.size) (by omega)
 obtain ⟨y0,_⟩:=ro_cf r4 0 (.bool true) rfl
 obtain ⟨y1,_⟩:=ro_cf r4 1 (.int .i64 off) rfl
 obtain ⟨y2,_⟩:=ro_cf r4 2 (.bool d) rfl
 obtain ⟨y3,_⟩:=ro_cf r4 3 (.string s) rfl
 generalize (((w6.setCell ⟨w.heap.size,0,none⟩ (.bool true)).setCell ⟨w.heap.size,1,none⟩ (.int .i64 off)).setCell ⟨w.heap.size,2,none⟩ (.bool d)).setCell ⟨w.heap.size,3,none⟩ (.string s)=w7 at *
 clear x0 x1 x2 x3 z0 z1 z2 z3
 refine bodyPost_ret (v:=.agg #[.bool true,.int .i64 off,.bool d,.string s]) (by simp [results,Tryz.results221,go_sem,y0,y1,y2,y3]) rfl ⟨rfl,hb2⟩
end te_
end Go.Proofs.YtpapfpcehlhgeaaGreatDoor

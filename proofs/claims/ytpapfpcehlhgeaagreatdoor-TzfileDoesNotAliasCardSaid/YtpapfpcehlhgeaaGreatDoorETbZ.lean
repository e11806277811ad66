/-
  Texts of mine in one file: TbZ. Their conditions stand in the theorems.
-/
import Derived.Test.YtpapfpcehlhgeaaGreatDoorRows
import Derived.Test.YtpapfpcehlhgeaaGreatDoorE19
import Derived.Test.YtpapfpcehlhgeaaGreatDoorE06
import Derived.Lib.LaidTab
import Derived.Stop.LaidErr
import Derived.MakeChecks
import Derived.LaidHandle
namespace Go.Proofs.YtpapfpcehlhgeaaGreatDoor
set_option linter.unusedVariables false
set_option linter.unusedSimpArgs false
set_option maxRecDepth 100000
set_option maxHeartbeats 16000000
open Go.ChangeShapes Go.WideShapes Go.ChangeAt Go.RowKit
theorem tz_of {W:World} (h:laidMetH Tryz.prog [("math/bits.deBruijn32tab",Rows.laid_math_bits_deBruijn32tab),("math/bits.deBruijn64tab",Rows.laid_math_bits_deBruijn64tab),("internal/strconv.uint64pow10",Rows.laid_internal_strconv_uint64pow10),("unicode/utf8.acceptRanges",Rows.laid_unicode_utf8_acceptRanges),("zoneinfo/civil.monthLengths",Rows.laid_zoneinfo_civil_monthLengths),("zoneinfo/indicators.flags",Rows.laid_zoneinfo_indicators_flags),("errors.errorType",Rows.laid_errors_errorType),("strconv.ErrRange",Rows.laid_strconv_ErrRange),("strconv.ErrSyntax",Rows.laid_strconv_ErrSyntax),("zoneinfo/header.versionBytes",Rows.laid_zoneinfo_header_versionBytes),("unicode/utf8.first",Rows.laid_unicode_utf8_first)] W):T21 W:=by
 have h':laidMet Tryz.prog [("math/bits.deBruijn32tab",Rows.laid_math_bits_deBruijn32tab),("math/bits.deBruijn64tab",Rows.laid_math_bits_deBruijn64tab),("internal/strconv.uint64pow10",Rows.laid_internal_strconv_uint64pow10),("unicode/utf8.acceptRanges",Rows.laid_unicode_utf8_acceptRanges),("zoneinfo/civil.monthLengths",Rows.laid_zoneinfo_civil_monthLengths),("zoneinfo/indicators.flags",Rows.laid_zoneinfo_indicators_flags),("strconv.ErrRange",Rows.laid_strconv_ErrRange),("strconv.ErrSyntax",Rows.laid_strconv_ErrSyntax),("zoneinfo/header.versionBytes",Rows.laid_zoneinfo_header_versionBytes),("unicode/utf8.first",Rows.laid_unicode_utf8_first)] W∧handlesMet Tryz.prog [("errors.errorType",Rows.laid_errors_errorType)] W:=h
 have h1:laidMet Tryz.prog [] W:=⟨[],rfl,List.nodup_nil,fun b off h=>by cases h⟩
 have hm:=h'.1
 refine ⟨?_,⟨tt_of (show laidMet Tryz.prog [] W∧handlesMet Tryz.prog [("errors.errorType",Rows.laid_errors_errorType)] W from ⟨h1,h'.2⟩),?_⟩,?_⟩
 ·have hg:Tryz.prog.globalNamed "zoneinfo/civil.monthLengths"=some 4:=by kernel_rfl
  have t:=Lib.tabIs_of_head (k:=.i64) (zs:=[31,28,31,30,31,30,31,31,30,31,30,31]) hg (by kernel_rfl) Tryz.underlying338 Tryz.underlying3 (by kernel_rfl) (by kernel_rfl) hm.tail.tail.tail.tail
  have key:∀ (i:Nat) (v:Int),([31,28,31,30,31,30,31,31,30,31,30,31]:List Int)[i]?=some v→W.cell? ⟨4,i,none⟩=some (.int .i64 v):=by
   intro i v hi
   have hl:=(List.getElem?_eq_some_iff.1 hi).1
   have:=t.cell hg i hl
   rwa [List.getD_eq_getElem?_getD,hi] at this
  exact ⟨cell_lt (key 0 31 rfl),key⟩
 ·have hg:Tryz.prog.globalNamed "zoneinfo/indicators.flags"=some 2:=by kernel_rfl
  obtain ⟨ps,⟨g',t',cs,fuel,p,q,hg',ht',hvar,hd,_,_⟩,_⟩:=hm.tail.tail.tail.tail.tail
  obtain rfl:=Option.some.inj (hg.symm.trans hg')
  obtain rfl:=Option.some.inj ((show (Tryz.prog.globals[2]?).map (·.type)=some 238 by kernel_rfl).symm.trans ht')
  have hcs:=two_flags Tryz.underlying238 Tryz.underlying4 (by kernel_rfl) (by kernel_rfl) hd
  obtain rfl:cs=#[.bool false,.bool true]:=by
   cases cs
   simpa using hcs
  have h0:=World.var?_cell hg hvar 0
  have h1:=World.var?_cell hg hvar 1
  simp at h0 h1
  exact ⟨cell_lt h0,h0,h1⟩
 ·have hg:Tryz.prog.globalNamed "zoneinfo/header.versionBytes"=some 0:=by kernel_rfl
  have t:=Lib.tabIs_of_head (k:=.u8) (zs:=[0,50,51,52]) hg (by kernel_rfl) Tryz.underlying162 Tryz.underlying5 (by kernel_rfl) (by kernel_rfl) hm.tail.tail.tail.tail.tail.tail.tail.tail
  have key:∀ (i:Nat) (v:Int),([0,50,51,52]:List Int)[i]?=some v→W.cell? ⟨0,i,none⟩=some (.int .u8 v):=by
   intro i v hi
   have hl:=(List.getElem?_eq_some_iff.1 hi).1
   have:=t.cell hg i hl
   rwa [List.getD_eq_getElem?_getD,hi] at this
  exact ⟨cell_lt (key 0 0 rfl),key⟩
end Go.Proofs.YtpapfpcehlhgeaaGreatDoor

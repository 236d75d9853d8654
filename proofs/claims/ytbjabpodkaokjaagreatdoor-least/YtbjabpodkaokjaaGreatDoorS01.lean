import Derived.Test.YtbjabpodkaokjaaGreatDoorJ34
import Derived.Test.YtbjabpodkaokjaaGreatDoorRows
import Derived.ProofKit
import Derived.LaidMore
import Derived.OpenShut
import Derived.Stop.Joined
import Derived.Deep.Strs
import Derived.Lib.LaidTab
set_option linter.unusedVariables false
set_option linter.unusedSimpArgs false
set_option maxHeartbeats 4000000
set_option maxRecDepth 100000
namespace Go.Proofs.YtbjabpodkaokjaaGreatDoor
open Go.ChangeShapes Go.WideShapes Go.ChangeAt Go.WideMaps Go.WideElems Go.RowKit
theorem gSigns : Tryz.prog.globalNamed "hasp/syntax.signs" = some 2 := by kernel_rfl
theorem gSets : Tryz.prog.globalNamed "hasp/syntax.setEscapes" = some 3 := by kernel_rfl
theorem gBytes : Tryz.prog.globalNamed "hasp/syntax.byteEscapes" = some 4 := by kernel_rfl
theorem gBits : Tryz.prog.globalNamed "math/bits.deBruijn64tab" = some 1 := by kernel_rfl
theorem tSigns:(Tryz.prog.globals[2]?).map (·.type)=some 340:=by kernel_rfl
theorem tSets:(Tryz.prog.globals[3]?).map (·.type)=some 361:=by kernel_rfl
theorem tByts:(Tryz.prog.globals[4]?).map (·.type)=some 364:=by kernel_rfl
theorem tBits:(Tryz.prog.globals[1]?).map (·.type)=some 334:=by kernel_rfl
theorem heap_of_var {P:Program}{W:World}{n:String}{g:Nat}{cs:Array Value} (hg:P.globalNamed n=some g) (h:W.var? P n=some cs):∃ t fr,W.heap[g]?=some (.cells cs t fr):=by
 simp only[World.var?,hg,Option.bind_some] at h
 split at h
 ·rename_i c t fr hh
  injection h with h;subst h
  exact⟨t,fr,hh⟩
 ·simp at h
theorem c5:Tryz.prog.cellsOf 5=1:=by kernel_rfl
theorem cBy:Tryz.prog.cellsOf 363=2:=by kernel_rfl
theorem cBys:Tryz.prog.cellsOf 364=4:=by kernel_rfl
theorem cSp:Tryz.prog.cellsOf 360=3:=by kernel_rfl
theorem cSps:Tryz.prog.cellsOf 361=24:=by kernel_rfl
theorem open2 {W:World}{fuel:Nat}{c0 c1:Value}{a b:Int}{x:DataW Unit×List MemPlace} (h:DataW.trod (fun _=>()) Tryz.prog W 0 (fun _=>true) false fuel 363 [c0,c1]=some x) (hx:x.1=.agg [.lit (.int .u8 a),.lit (.int .u8 b)]):c0=.int .u8 a∧c1=.int .u8 b:=by
 obtain⟨y0,y1,n,rfl,_,a0,a1⟩:=trod_struct2 Tryz.underlying363 h
 obtain⟨n0,e0,rfl,_⟩:=DataW.trod_int Tryz.underlying5 a0
 obtain⟨n1,e1,rfl,_⟩:=DataW.trod_int Tryz.underlying5 a1
 simp only[c5] at e0 e1
 simp at e0 e1 hx
 obtain⟨rfl,rfl⟩:=hx
 exact⟨e0,e1⟩
theorem open3 {W:World}{fuel:Nat}{c0 c1 c2:Value}{a b d:Int}{x:DataW Unit×List MemPlace} (h:DataW.trod (fun _=>()) Tryz.prog W 0 (fun _=>true) false fuel 360 [c0,c1,c2]=some x) (hx:x.1=.agg [.lit (.int .u8 a),.lit (.int .u8 b),.lit (.int .u8 d)]):c0=.int .u8 a∧c1=.int .u8 b∧c2=.int .u8 d:=by
 obtain⟨y0,y1,y2,n,rfl,_,a0,a1,a2⟩:=Go.Deep.trod_struct3 Tryz.underlying360 h
 obtain⟨n0,e0,rfl,_⟩:=DataW.trod_int Tryz.underlying5 a0
 obtain⟨n1,e1,rfl,_⟩:=DataW.trod_int Tryz.underlying5 a1
 obtain⟨n2,e2,rfl,_⟩:=DataW.trod_int Tryz.underlying5 a2
 simp only[c5] at e0 e1 e2
 simp at e0 e1 e2 hx
 obtain⟨rfl,rfl,rfl⟩:=hx
 exact⟨e0,e1,e2⟩
theorem byts_cells {W:World}{fuel:Nat}{cs:List Value}{p:List MemPlace} (h:DataW.trod (fun _=>()) Tryz.prog W 0 (fun _=>true) false fuel 364 cs=some (Rows.laid_hasp_syntax_byteEscapes,p)):cs=Sx.BE.toList:=by
 obtain⟨xs,m,rfl,hx,hlen,hn,hel⟩:=DataW.trod_array Tryz.underlying364 h
 rw[cBys] at hlen
 rw[cBy] at hel
 clear h
 match xs,hn,cs,hlen with
 |[x0,x1],_,[c0,c1,c2,c3],_=>
  have hx1:=congrArg Prod.fst hx
  simp only[Rows.laid_hasp_syntax_byteEscapes,List.map_cons,List.map_nil,DataW.agg.injEq,List.cons.injEq,and_true] at hx1
  obtain⟨k0,k1⟩:=hx1
  obtain⟨rfl,rfl⟩:=open2 (by simpa using hel 0 (by decide)) k0.symm
  obtain⟨rfl,rfl⟩:=open2 (by simpa using hel 1 (by decide)) k1.symm
  rfl
theorem sets_cells {W:World}{fuel:Nat}{cs:List Value}{p:List MemPlace} (h:DataW.trod (fun _=>()) Tryz.prog W 0 (fun _=>true) false fuel 361 cs=some (Rows.laid_hasp_syntax_setEscapes,p)):cs=Sx.SE.toList:=by
 obtain⟨xs,m,rfl,hx,hlen,hn,hel⟩:=DataW.trod_array Tryz.underlying361 h
 rw[cSps] at hlen
 rw[cSp] at hel
 clear h
 match xs,hn,cs,hlen with
 |[x0,x1,x2,x3,x4,x5,x6,x7],_,[c0,c1,c2,c3,c4,c5,c6,c7,c8,c9,c10,c11,c12,c13,c14,c15,c16,c17,c18,c19,c20,c21,c22,c23],_=>
  have hx1:=congrArg Prod.fst hx
  simp only[Rows.laid_hasp_syntax_setEscapes,List.map_cons,List.map_nil,DataW.agg.injEq,List.cons.injEq,and_true] at hx1
  obtain⟨k0,k1,k2,k3,k4,k5,k6,k7⟩:=hx1
  obtain⟨rfl,rfl,rfl⟩:=open3 (by simpa using hel 0 (by decide)) k0.symm
  obtain⟨rfl,rfl,rfl⟩:=open3 (by simpa using hel 1 (by decide)) k1.symm
  obtain⟨rfl,rfl,rfl⟩:=open3 (by simpa using hel 2 (by decide)) k2.symm
  obtain⟨rfl,rfl,rfl⟩:=open3 (by simpa using hel 3 (by decide)) k3.symm
  obtain⟨rfl,rfl,rfl⟩:=open3 (by simpa using hel 4 (by decide)) k4.symm
  obtain⟨rfl,rfl,rfl⟩:=open3 (by simpa using hel 5 (by decide)) k5.symm
  obtain⟨rfl,rfl,rfl⟩:=open3 (by simpa using hel 6 (by decide)) k6.symm
  obtain⟨rfl,rfl,rfl⟩:=open3 (by simpa using hel 7 (by decide)) k7.symm
  rfl
theorem bits_cells {W:World}{fuel:Nat}{cs:List Value}{p:List MemPlace} (h:DataW.trod (fun _=>()) Tryz.prog W 0 (fun _=>true) false fuel 334 cs=some (Rows.laid_math_bits_deBruijn64tab,p)):cs=(Lib.deBruijn64tab.map Int.ofNat).map (fun z=>Value.int .u8 z):=
 Lib.cells_of_tab (k:=.u8) (zs:=Lib.deBruijn64tab.map Int.ofNat) Tryz.underlying334 Tryz.underlying5 c5 (by kernel_rfl) h
theorem tabz_of {W : World} {cs : Array Value} (h : W.var? Tryz.prog "math/bits.deBruijn64tab" = some cs) (e : cs.toList = (Lib.deBruijn64tab.map Int.ofNat).map (fun z => Value.int .u8 z)) : TabZ W := by
 obtain⟨t,fr,hh⟩:=heap_of_var gBits h
 intro j hj
 simp only[World.cell?,hh]
 have h1:cs[j]?=cs.toList[j]?:=by simp
 rw[h1,e]
 simp[hj]
end Go.Proofs.YtbjabpodkaokjaaGreatDoor

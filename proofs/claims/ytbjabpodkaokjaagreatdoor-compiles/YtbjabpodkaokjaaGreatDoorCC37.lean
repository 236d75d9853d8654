import Derived.Test.YtbjabpodkaokjaaGreatDoorCC24
import Derived.Test.YtbjabpodkaokjaaGreatDoorRows
import Derived.ProofKit
import Derived.LaidMore
import Derived.OpenShut
import Derived.Stop.Joined
import Derived.Deep.Strs
import Derived.Lib.LaidTab
set_option linter.all false
set_option maxHeartbeats 4000000
set_option maxRecDepth 100000
open List Nat Go.World Go.Proofs.Tryz
namespace Go.Proofs.YtbjabpodkaokjaaGreatDoor
open Go.ChangeShapes Go.WideShapes Go.ChangeAt Go.WideMaps Go.WideElems Go.RowKit
variable {W:World}{fuel:Nat}{cs:List Value}{c0 c1:Value}{a b:Int}
def gSigns: Tryz.prog.globalNamed "hasp/syntax.signs" = some 2 := by kernel_rfl
def gSets: Tryz.prog.globalNamed "hasp/syntax.setEscapes" = some 3 := by kernel_rfl
def gBytes: Tryz.prog.globalNamed "hasp/syntax.byteEscapes" = some 4 := by kernel_rfl
def gBits: Tryz.prog.globalNamed "math/bits.deBruijn64tab" = some 1 := by kernel_rfl
def KY:(prog.globals[2]?).map (·.type)=some 340:=κ
def LN:(prog.globals[3]?).map (·.type)=some 361:=κ
def LO:(prog.globals[4]?).map (·.type)=some 364:=κ
def LP:(prog.globals[1]?).map (·.type)=some 334:=κ
def iS {P:Program}{n:String}{g:Nat}{cs:Array Value} (hg:P.globalNamed n=some g) (h:W.var? P n=some cs):∃ t fr,W.heap[g]?=some (.cells cs t fr):=by
 simp only[var?,hg,Option.bind_some] at h
 split at h
 .rename_i c t fr hh;injection h with h;subst h;exact⟨t,fr,hh⟩
 .simp at h
theorem c5:prog.cellsOf 5=1:=κ
theorem MM:prog.cellsOf 363=2:=κ
theorem Mt:prog.cellsOf 364=4:=κ
theorem MN:prog.cellsOf 360=3:=κ
theorem Mu:prog.cellsOf 361=24:=κ
def open2 {x:DataW Unit×List MemPlace} (h:DataW.trod (λ_=>()) prog W 0 (λ_=>true) false fuel 363 [c0,c1]=some x) (hx:x.1=.agg [.lit (.int .u8 a),.lit (.int .u8 b)]):c0=.int .u8 a/\c1=.int .u8 b:=by
 obtain⟨y0,y1,n,rfl,_,a0,a1⟩:=trod_struct2 underlying363 h;obtain⟨n0,e0,rfl,_⟩:=DataW.trod_int underlying5 a0;obtain⟨n1,e1,rfl,_⟩:=DataW.trod_int underlying5 a1;simp only[c5] at e0 e1;simp at e0 e1 hx;obtain⟨rfl,rfl⟩:=hx;exact⟨e0,e1⟩
def pd {c0 c1 c2:Value}{a b d:Int}{x:DataW Unit×List MemPlace} (h:DataW.trod (λ_=>()) prog W 0 (λ_=>true) false fuel 360 [c0,c1,c2]=some x) (hx:x.1=.agg [.lit (.int .u8 a),.lit (.int .u8 b),.lit (.int .u8 d)]):c0=.int .u8 a/\c1=.int .u8 b/\c2=.int .u8 d:=by
 obtain⟨y0,y1,y2,n,rfl,_,a0,a1,a2⟩:=Go.Deep.trod_struct3 underlying360 h;obtain⟨n0,e0,rfl,_⟩:=DataW.trod_int underlying5 a0;obtain⟨n1,e1,rfl,_⟩:=DataW.trod_int underlying5 a1;obtain⟨n2,e2,rfl,_⟩:=DataW.trod_int underlying5 a2;simp only[c5] at e0 e1 e2;simp at e0 e1 e2 hx;obtain⟨rfl,rfl,rfl⟩:=hx;exact⟨e0,e1,e2⟩
def A6 {p:List MemPlace} (h:DataW.trod (λ_=>()) prog W 0 (λ_=>true) false fuel 364 cs=some (Rows.laid_hasp_syntax_byteEscapes,p)):cs=Sx.BE.toList:=by
 obtain⟨xs,m,rfl,hx,c,hn,d⟩:=DataW.trod_array underlying364 h;rw[Mt] at c;rw[MM] at d
 match xs,hn,cs,c with
 |[x0,x1],_,[c0,c1,c2,c3],_=>
  have e:=congrArg Prod.fst hx;simp only[Rows.laid_hasp_syntax_byteEscapes,map_cons,map_nil,DataW.agg.injEq,List.cons.injEq,and_true] at e;obtain⟨k0,k1⟩:=e;obtain⟨rfl,rfl⟩:=open2 (by simpa using d 0 Zr) k0.symm;obtain⟨rfl,rfl⟩:=open2 (by simpa using d 1 Zr) k1.symm;rfl
def A7 {p:List MemPlace} (h:DataW.trod (λ_=>()) prog W 0 (λ_=>true) false fuel 361 cs=some (Rows.laid_hasp_syntax_setEscapes,p)):cs=Sx.SE.toList:=by
 obtain⟨xs,m,rfl,hx,d,hn,c⟩:=DataW.trod_array underlying361 h;rw[Mu] at d;rw[MN] at c
 match xs,hn,cs,d with
 |[x0,x1,x2,x3,x4,x5,x6,x7],_,[c0,c1,c2,c3,c4,c5,c6,c7,c8,c9,c10,c11,c12,c13,c14,c15,c16,c17,c18,c19,c20,c21,c22,c23],_=>
  have e:=congrArg Prod.fst hx;simp only[Rows.laid_hasp_syntax_setEscapes,map_cons,map_nil,DataW.agg.injEq,List.cons.injEq,and_true] at e;obtain⟨k0,k1,k2,k3,k4,k5,k6,k7⟩:=e;obtain⟨rfl,rfl,rfl⟩:=pd (by simpa using c 0 Zr) k0.symm;obtain⟨rfl,rfl,rfl⟩:=pd (by simpa using c 1 Zr) k1.symm;obtain⟨rfl,rfl,rfl⟩:=pd (by simpa using c 2 Zr) k2.symm;obtain⟨rfl,rfl,rfl⟩:=pd (by simpa using c 3 Zr) k3.symm;obtain⟨rfl,rfl,rfl⟩:=pd (by simpa using c 4 Zr) k4.symm;obtain⟨rfl,rfl,rfl⟩:=pd (by simpa using c 5 Zr) k5.symm;obtain⟨rfl,rfl,rfl⟩:=pd (by simpa using c 6 Zr) k6.symm;obtain⟨rfl,rfl,rfl⟩:=pd (by simpa using c 7 Zr) k7.symm;rfl
def A_ {p:List MemPlace} (h:DataW.trod (λ_=>()) prog W 0 (λ_=>true) false fuel 334 cs=some (Rows.laid_math_bits_deBruijn64tab,p)):cs=(Lib.deBruijn64tab.map Int.ofNat).map (λz=>Value.int .u8 z):=
 Lib.cells_of_tab (k:=.u8) (zs:=Lib.deBruijn64tab.map Int.ofNat) underlying334 underlying5 c5 κ h
def tabz_of {cs : Array Value} (h : W.var? Tryz.prog "math/bits.deBruijn64tab" = some cs) (e : cs.toList = (Lib.deBruijn64tab.map Int.ofNat).map (fun z => Value.int .u8 z)) : TabZ W := by
 obtain⟨t,fr,hh⟩:=iS gBits h;intro j hj;simp only[cell?,hh];have h1:cs[j]?=cs.toList[j]?:=χ;rw[h1,e];simp[hj]
end Go.Proofs.YtbjabpodkaokjaaGreatDoor

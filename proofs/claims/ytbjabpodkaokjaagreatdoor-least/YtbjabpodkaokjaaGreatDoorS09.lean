import Derived.Test.YtbjabpodkaokjaaGreatDoorS01
import Derived.Test.YtbjabpodkaokjaaGreatDoorTie
import Derived.Test.YtbjabpodkaokjaaGreatDoorCards
import Derived.SevenTiedAt
import Derived.Test.YtbjabpodkaokjaaGreatDoorS08
import Derived.ChangeSlices
import Derived.Carry
set_option linter.unusedVariables false
set_option linter.unusedSimpArgs false
set_option maxHeartbeats 4000000
set_option maxRecDepth 100000
namespace Go.Proofs.YtbjabpodkaokjaaGreatDoor
open Go.ChangeShapes Go.WideShapes Go.ChangeAt Go.WideMaps Go.WideElems Go.RowKit
theorem wf_rg {n:Int} (h:(Lit.int .i64 n).wf=true):-9223372036854775808≤n∧n≤9223372036854775807:=by
 have e1:IntKind.i64.min=-9223372036854775808:=by decide
 have e2:IntKind.i64.max=9223372036854775807:=by decide
 simp only[Lit.wf,Bool.and_eq_true,decide_eq_true_eq,e1,e2] at h
 exact h
theorem own5:ownKnob Tryz.prog.godebug=none:=by kernel_rfl
theorem same_at {W W':World} (h:Below W.heap.size W W') {p:MemPlace} (hp:p.block<W.heap.size):W.sameAt W' p:=by
 cases p with
 |cell b o=>exact cell_of_block (h.block b hp) o
 |map b=>exact h.block b hp
theorem addr_at {w:World}{a:Addr}{v:Value} (h:w.cell? (a.add 0)=some v):∀ j,a.add j=⟨a.block,a.off+j,none⟩:=by
 obtain⟨b,o,s⟩:=a
 have hs:s=none:=by
  cases s with
  |none=>rfl
  |some x=>
   simp only[Addr.add,if_true,World.cell?] at h
   split at h<;>simp at h
 subst hs
 intro j
 unfold Addr.add
 split<;>simp_all
section
variable {H:Type}{enc:TypeId×Value→H}{w:World}{fuel:Nat}{cs:List Value}{x:DataW H×List MemPlace}
theorem open_raw (h:DataW.trod enc Tryz.prog w 0 (fun _=>true) true fuel 40 cs=some x):∃ v l,cs=[v]∧Raw w.heap.size w v l:=by
 rcases open_ints Tryz.underlying40 Tryz.underlying3 (by kernel_rfl) h with⟨rfl,rfl⟩|⟨a,len,cap,zs,rfl,hb,hl,hm,hz,-,hc,hwf⟩
 ·exact⟨_,[],rfl,⟨.inl ⟨rfl,_,_,rfl⟩,fun a n c e=>by injection e;omega,by simp,by simp,fun _ _ _ _ _=>.inl rfl⟩⟩
 ·simp only[if_true] at hz
  have hmem:∀ z∈zs.take len,-9223372036854775808≤z∧z≤9223372036854775807:=fun z hz'=>wf_rg (hwf z (List.mem_of_mem_take hz'))
  refine⟨.slice (some a) len cap,zs.take len,rfl,?_⟩
  rcases Nat.eq_zero_or_pos len with h0|hp
  ·subst h0
   exact⟨.inl ⟨by simp,_,_,rfl⟩,fun a n c e=>by injection e;omega,hmem,by simp,fun _ _ _ _ _=>.inl (by simp)⟩
  ·have ha:=addr_at (hc 0 (by omega))
   have h0:=ha 0
   simp only[Addr.add,if_true,Nat.add_zero] at h0
   have hll:(zs.take len).length=len:=by simp;omega
   refine⟨.inr ⟨a.block,a.off,cap,by rw[hll,h0],fun j hj=>?_⟩,fun a' n c e=>by injection e;omega,hmem,by rw[hll];omega,fun b o n c e=>.inr ?_⟩
   ·have hj':j<len:=by omega
    rw[←ha j,hc j (by omega)]
    simp[List.getElem_take,show j<zs.length by omega]
   ·injection e with e1
    injection e1 with e1
    have:=cell_lt (show w.cell? ⟨a.block,a.off+0,none⟩=_ by rw[←ha 0];exact hc 0 (by omega))
    rw[e1] at this
    exact this
end
theorem spoilt_laid {W:World} (h:laidMetH Tryz.prog Rows.spoiltRow.laid W):Sx.Tabs W∧TabZ W:=by
 rw[MakeChecks.laidMetH_plain _ _ _ (by kernel_rfl)] at h
 obtain⟨ps,⟨g1,t1,cs1,f1,p1,q1,hg1,ht1,hv1,hd1,⟨g3,t3,cs3,f3,p3,q3,hg3,ht3,hv3,hd3,⟨g4,t4,cs4,f4,p4,q4,hg4,ht4,hv4,hd4,⟨g5,t5,cs5,f5,p5,q5,hg5,ht5,hv5,hd5,_,_⟩,_⟩,_⟩,_⟩,_,_⟩:=h
 obtain rfl:=Option.some.inj (gBits.symm.trans hg1)
 obtain rfl:=Option.some.inj (gSigns.symm.trans hg3)
 obtain rfl:=Option.some.inj (gBytes.symm.trans hg4)
 obtain rfl:=Option.some.inj (gSets.symm.trans hg5)
 obtain rfl:=Option.some.inj (tBits.symm.trans ht1)
 obtain rfl:=Option.some.inj (tSigns.symm.trans ht3)
 obtain rfl:=Option.some.inj (tByts.symm.trans ht4)
 obtain rfl:=Option.some.inj (tSets.symm.trans ht5)
 have e1:=bits_cells hd1
 have e3:cs3.toList=Sx.SG.toList:=Lib.cells_of_tab (k:=.u8) (zs:=[92,46,91,93,40,41,123,125,124,42,43,63,94,36]) Tryz.underlying340 Tryz.underlying5 c5 (by kernel_rfl) hd3
 have e4:=byts_cells hd4
 have e5:=sets_cells hd5
 have a3:cs3=Sx.SG:=Array.toList_inj.1 e3
 have a4:cs4=Sx.BE:=Array.toList_inj.1 e4
 have a5:cs5=Sx.SE:=Array.toList_inj.1 e5
 subst a3;subst a4;subst a5
 exact⟨⟨heap_of_var gSigns hv3,heap_of_var gSets hv5,heap_of_var gBytes hv4⟩,tabz_of hv1 e1⟩
end Go.Proofs.YtbjabpodkaokjaaGreatDoor

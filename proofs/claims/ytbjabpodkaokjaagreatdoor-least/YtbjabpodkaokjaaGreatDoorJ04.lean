import Derived.Test.YtbjabpodkaokjaaGreatDoorJ03
set_option linter.unusedVariables false
set_option linter.unusedSimpArgs false
set_option maxHeartbeats 4000000
set_option maxRecDepth 100000
namespace Go.Proofs.YtbjabpodkaokjaaGreatDoor
open Go.RowKit
theorem NumAt.took {te:TypeId}{size:Nat}{w:World}{p mb:Nat}{v:Value}{vs:List Value}{tk:Nat} (h:NumAt te size w p mb v vs tk) (hl:tk<vs.length):NumAt te size (w.setCell ⟨p,2,none⟩ (.int .i64 ((tk:Int)+1))) p mb v vs (tk+1):=by
 have hpm:p≠mb:=by
  rintro rfl
  have:=h.c0
  simp[World.cell?,h.mp] at this
 refine⟨?_,?_,?_,fun o=>?_,?_,own_blk h.own (fun b e=>set_blk _ _ _ _ (by rintro rfl;exact h.ne e)),h.ne,by omega,h.sz⟩
 ·rw[←h.c0];simp[go_sem]
 ·rw[←h.c1];simp[go_sem]
 ·simp[go_sem,h.c2]
 ·rw[←h.fz o];simp[go_sem]
 ·rw[set_blk _ _ _ _ (Ne.symm hpm)];exact h.mp
theorem ownsRow_shape' {w:World}{base n size:Nat}{v:Value}{e:TypeId}{xs:List Value} (h:w.ownsRow base e size v n xs):∃ a c,v=.slice a n c:=by
 rcases h.2 with⟨rfl,rfl⟩|⟨g,cap,cur,rfl,_⟩
 ·exact⟨_,_,rfl⟩
 ·exact⟨_,_,rfl⟩
theorem set5_blk (w:World) (q:Nat) (a0 a1 a2 a3 a4:Value) {k:Nat} (h:k≠q):(((((w.setCell ⟨q,0,none⟩ a0).setCell ⟨q,1,none⟩ a1).setCell ⟨q,2,none⟩ a2).setCell ⟨q,3,none⟩ a3).setCell ⟨q,4,none⟩ a4).heap[k]?=w.heap[k]?:=by
 rw[set_blk _ _ _ _ h,set_blk _ _ _ _ h,set_blk _ _ _ _ h,set_blk _ _ _ _ h,set_blk _ _ _ _ h]
theorem NumAt.drew2 {te:TypeId}{size:Nat}{w:World}{p mb:Nat}{v:Value}{vs:List Value}{tk:Nat} (h:NumAt te size w p mb v vs tk):NumAt te size w.drew.drew p mb v vs tk:=h.keep (fun _ _=>rfl)
theorem exc_set {w:World}{p o:Nat}{v:Value}{S:Nat→Prop} (hs:S p):Exc S w (w.setCell ⟨p,o,none⟩ v):=
 ⟨rfl,rfl,rfl,by simp[World.setCell],fun b _ hb=>set_blk _ _ _ _ (by rintro rfl;exact hb hs)⟩
theorem takeSt_none (w:World) (p mb:Nat) (v:Value) (vs:List Value) (h:NumAt 244 5 w p mb v vs vs.length) :
  Calls Tryz.prog 181 #[.pointer (some ⟨p,1,none⟩)] w fun e w'=>e=.returned (.tuple #[stV 0 0 0 0 false,.bool false])∧Below w.heap.size w w':=by
 obtain⟨a,c,hv⟩:=ownsRow_shape' h.own
 obtain⟨w1,hw1⟩:∃ w1,w1=w.alloc (.cells #[.int .u64 0,.int .u64 0,.int .u64 0,.int .u64 0,.bool false] 244):=⟨_,rfl⟩
 have hb1:Below w.heap.size w w1:=by rw[hw1];exact(Below.refl _ _).alloc (Nat.le_refl _) _
 have c1:=cell_below hb1 h.c1
 have c2:=cell_below hb1 h.c2
 rw[hv] at c1
 have hs1:w.heap.size<w1.heap.size:=by rw[hw1];simp
 have hx:w1.heap[w.heap.size]?=some (.cells #[.int .u64 0,.int .u64 0,.int .u64 0,.int .u64 0,.bool false] 244):=by rw[hw1];exact heap_alloc_new w _
 obtain⟨y0,y1,y2,y3,y4⟩:=box5 hx
 have hf1:∀ o,w1.frozen? ⟨w.heap.size,o,none⟩=false:=fun o=>by simp[World.frozen?,hx]
 obtain⟨nv,hnv⟩:∃ nv,nv=vs.length:=⟨_,rfl⟩
 rw[←hnv] at c1 c2
 have HW:Hid (w1=w.alloc (.cells #[.int .u64 0,.int .u64 0,.int .u64 0,.int .u64 0,.bool false] 244)):=hw1
 have HB:Hid (Below w.heap.size w w1):=hb1
 clear h hnv hv hw1 hb1 hx
 go_enter Tryz.func181,Tryz.ntmps181
 go_wp2
 rw[←HW.out]
 go_region
 go_wp2
 refine bodyPost_ret (v:=.tuple #[stV 0 0 0 0 false,.bool false]) ?_ rfl ⟨rfl,?_⟩
 ·simp[results,Tryz.results181,go_sem,y0,y1,y2,y3,y4,hs1]
 ·have:=HB.out
  exact((by(repeat first|(with_reducible refine Below.setCell ?_ (by first|exact Nat.le_refl _|(simp;done)|(simp;omega)) _)|(with_reducible refine Below.alloc ?_ (by first|omega|(simp;done)|(simp;omega)) _)|(with_reducible refine Below.drew ?_));exact this))
theorem takeSt_some (w:World) (p mb:Nat) (v:Value) (vs:List Value) (tk:Nat) (x0 x1 x2 x3:Nat) (b:Bool) (h:NumAt 244 5 w p mb v vs tk) (hx:vs[tk]?=some (stV x0 x1 x2 x3 b)) (hn:vs.length≤1048576) :
  Calls Tryz.prog 181 #[.pointer (some ⟨p,1,none⟩)] w fun e w'=>e=.returned (.tuple #[stV x0 x1 x2 x3 b,.bool true])∧NumAt 244 5 w' p mb v vs (tk+1)∧Exc (Foot p mb v) w w':=by
 obtain⟨w1,hw1⟩:∃ w1,w1=w.alloc (.cells #[.int .u64 0,.int .u64 0,.int .u64 0,.int .u64 0,.bool false] 244):=⟨_,rfl⟩
 have hb1:Below w.heap.size w w1:=by rw[hw1];exact(Below.refl _ _).alloc (Nat.le_refl _) _
 have h1:NumAt 244 5 w1 p mb v vs tk:=h.keep (fun k hk=>hb1.block k (h.lt hk))
 have htl:tk<vs.length:=(List.getElem?_eq_some_iff.1 hx).1
 obtain⟨g,cap,hv,hcs⟩:=h1.at hx (by omega)
 have c1:=h1.c1
 have c2:=h1.c2
 have f2:=h1.fz 2
 rw[hv] at c1
 have k0:=hcs 0 (by omega)
 have k1:=hcs 1 (by omega)
 have k2:=hcs 2 (by omega)
 have k3:=hcs 3 (by omega)
 have k4:=hcs 4 (by omega)
 simp[Value.cells] at k0 k1 k2 k3 k4
 have hgp:g≠p:=by have:=h.ne;rw[hv] at this;simp[Value.ownBlock] at this;exact this
 have hgl:g<w.heap.size:=h.lt (.inr (.inr (by rw[hv];rfl)))
 have hpl:p<w.heap.size:=h.lt (.inl rfl)
 have hs1:w.heap.size<w1.heap.size:=by rw[hw1];simp
 have hx1:w1.heap[w.heap.size]?=some (.cells #[.int .u64 0,.int .u64 0,.int .u64 0,.int .u64 0,.bool false] 244):=by rw[hw1];exact heap_alloc_new w _
 obtain⟨y0,y1,y2,y3,y4⟩:=box5 hx1
 have hf1:∀ o,w1.frozen? ⟨w.heap.size,o,none⟩=false:=fun o=>by simp[World.frozen?,hx1]
 have ne1:g≠w.heap.size:=by omega
 have ne2:p≠w.heap.size:=by omega
 have ne3:=Ne.symm ne1
 have ne4:=Ne.symm ne2
 have ne5:=Ne.symm hgp
 obtain⟨nv,hnv⟩:∃ nv,nv=vs.length:=⟨_,rfl⟩
 have htn:(tk:Int)<nv:=by omega
 have hte:((tk:Int)==nv)=false:=by simp;omega
 have htl2:tk≤1048576:=by omega
 have HTL:Hid (tk<vs.length):=htl
 rw[←hnv] at c1
 have HN1:Hid (NumAt 244 5 w1 p mb v vs tk):=h1
 have HNL:Hid (∀ {b},Foot p mb v b→b<w.heap.size):=fun {b}=>h.lt
 have HW:Hid (w1=w.alloc (.cells #[.int .u64 0,.int .u64 0,.int .u64 0,.int .u64 0,.bool false] 244)):=hw1
 have HB:Hid (Below w.heap.size w w1):=hb1
 clear h hnv hv hw1 hb1 hx1 hcs h1 hx htl hn hgl hpl
 go_enter Tryz.func181,Tryz.ntmps181
 go_wp2
 rw[←HW.out]
 go_region
 go_wp2
 go_region
 go_wp2
 refine bodyPost_ret (v:=.tuple #[stV x0 x1 x2 x3 b,.bool true]) ?_ rfl ⟨rfl,?_,?_⟩
 ·simp[results,Tryz.results181,go_sem,y0,y1,y2,y3,y4,hs1,ne1,ne2,ne3,ne4]
 ·exact NumAt.drew2 ((HN1.out.took HTL.out).keep (fun k hk=>(set5_blk (w1.setCell ⟨p,2,none⟩ (.int .i64 ((tk:Int)+1))) w.heap.size (.int .u64 (x0:Int)) (.int .u64 (x1:Int)) (.int .u64 (x2:Int)) (.int .u64 (x3:Int)) (.bool b) (k:=k) (by have:=HNL.out hk;omega))))
 ·have e1:Exc (Foot p mb v) w (w1.setCell ⟨p,2,none⟩ (.int .i64 ((tk:Int)+1))):=(Exc.of_below _ HB.out).trans (exc_set (.inl rfl))
  exact Exc.drew (Exc.drew ⟨e1.os,e1.tape,e1.output,by simp[World.setCell];omega,fun k hk hs=>(set5_blk (w1.setCell ⟨p,2,none⟩ (.int .i64 ((tk:Int)+1))) w.heap.size (.int .u64 (x0:Int)) (.int .u64 (x1:Int)) (.int .u64 (x2:Int)) (.int .u64 (x3:Int)) (.bool b) (k:=k) (by omega)).trans (e1.block k hk hs)⟩)
end Go.Proofs.YtbjabpodkaokjaaGreatDoor

import Derived.Test.YtbjabpodkaokjaaGreatDoorJ04
set_option linter.unusedVariables false
set_option linter.unusedSimpArgs false
set_option maxHeartbeats 4000000
set_option maxRecDepth 100000
namespace Go.Proofs.YtbjabpodkaokjaaGreatDoor
open Go.RowKit
open Go.ChangeMaps (setBlock)
theorem size_set' (w:World) (a:Addr) (v:Value):(w.setCell a v).heap.size=w.heap.size:=by simp[World.setCell]
structure Stt where
 x0:Nat
 x1:Nat
 x2:Nat
 x3:Nat
 ends:Bool
 deriving DecidableEq
structure Stt.ok (s:Stt):Prop where
 l0:s.x0<18446744073709551616
 l1:s.x1<18446744073709551616
 l2:s.x2<18446744073709551616
 l3:s.x3<18446744073709551616
def Stt.v (s:Stt):Value:=stV s.x0 s.x1 s.x2 s.x3 s.ends
theorem Stt.v_inj {s t:Stt} (h:s.v=t.v):s=t:=by
 obtain⟨a0,a1,a2,a3,a4⟩:=s
 obtain⟨b0,b1,b2,b3,b4⟩:=t
 simp[Stt.v] at h
 simp only[Stt.mk.injEq]
 obtain⟨h0,h1,h2,h3,h4⟩:=h
 exact⟨by omega,by omega,by omega,by omega,h4⟩
def pushM {α:Type} [DecidableEq α] (l:List α) (x:α):List α:=if x∈l then l else l++[x]
theorem idx_of_get {α:Type} [DecidableEq α] {l:List α} (h:l.Nodup) {i:Nat}{x:α} (hi:l[i]?=some x):l.idxOf x=i:=by
 obtain⟨hl,rfl⟩:=List.getElem?_eq_some_iff.1 hi
 exact h.idxOf_getElem i hl
theorem pushM_nodup {α:Type} [DecidableEq α] {l:List α} (h:l.Nodup) (x:α):(pushM l x).Nodup:=by
 unfold pushM
 split
 ·exact h
 ·rename_i hx
  exact List.nodup_append.2 ⟨h,by simp,fun a ha b hb=>by simp at hb;subst hb;rintro rfl;exact hx ha⟩
theorem stt_old {l:List Stt}{s:Stt}{i:Nat} (h:(l.map Stt.v)[i]?=some s.v):l[i]?=some s:=by
 rw[List.getElem?_map] at h
 obtain⟨y,hy,e⟩:=Option.map_eq_some_iff.1 h
 rw[hy,Stt.v_inj e]
theorem stt_mem {l:List Stt}{s:Stt}:s.v∈l.map Stt.v↔s∈l:=
 ⟨fun h=>by obtain⟨y,hy,e⟩:=List.mem_map.1 h;rw[←Stt.v_inj e];exact hy,fun h=>List.mem_map_of_mem h⟩
theorem ofSt_any (w:World) (p mb:Nat) (v:Value) (l:List Stt) (tk:Nat) (s:Stt) (h:NumAt 244 5 w p mb v (l.map Stt.v) tk) (hl:∀ y∈l,y.ok) (hs:s.ok) (hn:l.length≤1048576) (hd:l.Nodup) :
  Calls Tryz.prog 130 #[.pointer (some ⟨p,0,none⟩),s.v] w fun e w'=>e=.returned (.int .i64 (((pushM l s).idxOf s:Nat):Int)) ∧
   ∃ v',NumAt 244 5 w' p mb v' ((pushM l s).map Stt.v) tk∧(∀ g,v'.ownBlock=some g→v.ownBlock=some g∨w.heap.size≤g)∧Exc (Foot p mb v) w w':=by
 have hks:∀ y∈l.map Stt.v,∃ q,keyOf Tryz.prog 244 y=some q:=fun y hy=>by
  obtain⟨z,hz,rfl⟩:=List.mem_map.1 hy
  have:=hl z hz
  exact key_state _ _ _ _ _ this.l0 this.l1 this.l2 this.l3
 have hk:∃ q,keyOf Tryz.prog 244 s.v=some q:=key_state _ _ _ _ _ hs.l0 hs.l1 hs.l2 hs.l3
 by_cases hm:s∈l
 ·obtain⟨i,hi⟩:=List.mem_iff_getElem?.1 hm
  have hi':(l.map Stt.v)[i]?=some s.v:=by rw[List.getElem?_map,hi];rfl
  refine(ofSt_old w p mb v (l.map Stt.v) tk s.x0 s.x1 s.x2 s.x3 s.ends i h hi' (fun w1 e1=>?_)).mono ?_
  ·rcases num_look (x:=s.v) keyed_state Tryz.underlying293 (zi0 w1) (e1.trans h.mp) hks hk with⟨h1,_⟩|⟨j,h1,h2⟩
   ·exact absurd (stt_mem.2 hm) h1
   ·have e3:=idx_of_get hd (stt_old h1)
    rw[idx_of_get hd hi] at e3
    subst e3
    exact h2
  ·rintro e w' ⟨rfl,hb⟩
   have e3:=idx_of_get hd hi
   simp only[pushM,if_pos hm,e3,true_and]
   exact⟨v,h.keep (fun k hk=>hb.block k (h.lt hk)),fun g hg=>.inl hg,Exc.of_below _ hb⟩
 ·have hm':s.v ∉ l.map Stt.v:=fun q=>hm (stt_mem.1 q)
  refine(ofSt_new w p mb v (l.map Stt.v) tk s.x0 s.x1 s.x2 s.x3 s.ends h (by simpa using hn) (fun w1 e1=>?_) (fun w1 e1=>?_)).mono ?_
  ·rcases num_look (x:=s.v) keyed_state Tryz.underlying293 (zi0 w1) (e1.trans h.mp) hks hk with⟨_,h1⟩|⟨j,h1,h2⟩
   ·exact h1
   ·exact absurd (List.mem_of_getElem? h1) hm'
  ·exact num_put keyed_state Tryz.underlying293 (e1.trans h.mp) hks hk hm'
  ·rintro e w' ⟨rfl,g,cap,h1,h2,h3⟩
   have e3:(l++[s]).idxOf s=l.length:=idx_of_get (by have:=pushM_nodup hd s;rwa [pushM,if_neg hm] at this) (by simp)
   simp only[pushM,if_neg hm,e3,List.length_map,true_and]
   refine⟨.slice (some ⟨g,0,none⟩) ((l.map Stt.v).length+1) cap,?_,?_,h3⟩
   ·rw[List.map_append];exact h1
   ·intro q hq
    simp[Value.ownBlock] at hq
    subst hq
    exact h2
theorem nextSt_none (w:World) (p mb:Nat) (v:Value) (vs:List Value) (h:NumAt 244 5 w p mb v vs vs.length) :
  Calls Tryz.prog 131 #[.pointer (some ⟨p,0,none⟩)] w fun e w'=>e=.returned (.tuple #[stV 0 0 0 0 false,.bool false])∧Below w.heap.size w w':=by
 obtain⟨w1,hw1⟩:∃ w1,w1=w.alloc (.cells #[.int .u64 0,.int .u64 0,.int .u64 0,.int .u64 0,.bool false] 244):=⟨_,rfl⟩
 have hb1:Below w.heap.size w w1:=by rw[hw1];exact(Below.refl _ _).alloc (Nat.le_refl _) _
 have ht:=takeSt_none w1 p mb v vs (h.keep (fun k hk=>hb1.block k (h.lt hk)))
 have hs1:w.heap.size<w1.heap.size:=by rw[hw1];simp
 have hx1:w1.heap[w.heap.size]?=some (.cells #[.int .u64 0,.int .u64 0,.int .u64 0,.int .u64 0,.bool false] 244):=by rw[hw1];exact heap_alloc_new w _
 have HX:Hid (∀ w2,Below w1.heap.size w1 w2→w2.heap[w.heap.size]?=some (.cells #[.int .u64 0,.int .u64 0,.int .u64 0,.int .u64 0,.bool false] 244)):=fun w2 b2=>(b2.block _ hs1).trans hx1
 have HW:Hid (w1=w.alloc (.cells #[.int .u64 0,.int .u64 0,.int .u64 0,.int .u64 0,.bool false] 244)):=hw1
 have HB:Hid (Below w.heap.size w w1):=hb1
 clear hw1 hb1 hx1 h
 go_enter Tryz.func131,Tryz.ntmps131
 go_wp2_with (go_at_call 181;rw[←HW.out];refine ht.mono ?_;rintro e w2 ⟨rfl,hb2⟩;obtain⟨y0,y1,y2,y3,y4⟩:=box5 (HX.out w2 hb2);have hf2:∀ o,w2.frozen? ⟨w.heap.size,o,none⟩=false:=(fun o=>by simp[World.frozen?,HX.out w2 hb2]);have HB2:Hid (Below w.heap.size w w2):=HB.out.trans (hb2.mono HB.out.size);clear hb2)
 refine bodyPost_ret (v:=.tuple #[stV 0 0 0 0 false,.bool false]) ?_ rfl ⟨rfl,?_⟩
 ·simp[results,Tryz.results131,go_sem,y0,y1,y2,y3,y4]
 ·have:=HB2.out
  exact((by(repeat first|(with_reducible refine Below.setCell ?_ (by first|exact Nat.le_refl _|(simp;done)|(simp;omega)) _)|(with_reducible refine Below.alloc ?_ (by first|omega|(simp;done)|(simp;omega)) _)|(with_reducible refine Below.drew ?_));exact this))
theorem nextSt_some (w:World) (p mb:Nat) (v:Value) (vs:List Value) (tk:Nat) (x0 x1 x2 x3:Nat) (b:Bool) (h:NumAt 244 5 w p mb v vs tk) (hx:vs[tk]?=some (stV x0 x1 x2 x3 b)) (hn:vs.length≤1048576) :
  Calls Tryz.prog 131 #[.pointer (some ⟨p,0,none⟩)] w fun e w'=>e=.returned (.tuple #[stV x0 x1 x2 x3 b,.bool true])∧NumAt 244 5 w' p mb v vs (tk+1)∧Exc (Foot p mb v) w w':=by
 obtain⟨w1,hw1⟩:∃ w1,w1=w.alloc (.cells #[.int .u64 0,.int .u64 0,.int .u64 0,.int .u64 0,.bool false] 244):=⟨_,rfl⟩
 have hb1:Below w.heap.size w w1:=by rw[hw1];exact(Below.refl _ _).alloc (Nat.le_refl _) _
 have ht:=takeSt_some w1 p mb v vs tk x0 x1 x2 x3 b (h.keep (fun k hk=>hb1.block k (h.lt hk))) hx hn
 have hs1:w.heap.size<w1.heap.size:=by rw[hw1];simp
 have hx1:w1.heap[w.heap.size]?=some (.cells #[.int .u64 0,.int .u64 0,.int .u64 0,.int .u64 0,.bool false] 244):=by rw[hw1];exact heap_alloc_new w _
 have HNL:Hid (∀ {b},Foot p mb v b→b<w.heap.size):=fun {b}=>h.lt
 have HX:Hid (∀ w2,Exc (Foot p mb v) w1 w2→w2.heap[w.heap.size]?=some (.cells #[.int .u64 0,.int .u64 0,.int .u64 0,.int .u64 0,.bool false] 244)):=fun w2 b2=>(b2.block _ hs1 (fun q=>by have:=h.lt q;omega)).trans hx1
 have HW:Hid (w1=w.alloc (.cells #[.int .u64 0,.int .u64 0,.int .u64 0,.int .u64 0,.bool false] 244)):=hw1
 have HB:Hid (Exc (Foot p mb v) w w1):=Exc.of_below _ hb1
 clear hw1 hb1 hx1 h hx hn
 go_enter Tryz.func131,Tryz.ntmps131
 go_wp2_with (go_at_call 181;rw[←HW.out];refine ht.mono ?_;rintro e w2 ⟨rfl,hn2,hb2⟩;obtain⟨y0,y1,y2,y3,y4⟩:=box5 (HX.out w2 hb2);have hf2:∀ o,w2.frozen? ⟨w.heap.size,o,none⟩=false:=(fun o=>by simp[World.frozen?,HX.out w2 hb2]);have HB2:Hid (Exc (Foot p mb v) w w2):=HB.out.trans hb2;have HN2:Hid (NumAt 244 5 w2 p mb v vs (tk+1)):=hn2;clear hb2 hn2)
 refine bodyPost_ret (v:=.tuple #[stV x0 x1 x2 x3 b,.bool true]) ?_ rfl ⟨rfl,?_,?_⟩
 ·simp[results,Tryz.results131,go_sem,y0,y1,y2,y3,y4]
 ·exact HN2.out.keep (fun k hk=>set5_blk w2 w.heap.size (.int .u64 (x0:Int)) (.int .u64 (x1:Int)) (.int .u64 (x2:Int)) (.int .u64 (x3:Int)) (.bool b) (by have:=HNL.out hk;omega))
 ·have e1:=HB2.out
  exact⟨e1.os,e1.tape,e1.output,by simp only[size_set'];exact e1.size,fun k hk hs=>(set5_blk w2 w.heap.size (.int .u64 (x0:Int)) (.int .u64 (x1:Int)) (.int .u64 (x2:Int)) (.int .u64 (x3:Int)) (.bool b) (by omega)).trans (e1.block k hk hs)⟩
end Go.Proofs.YtbjabpodkaokjaaGreatDoor

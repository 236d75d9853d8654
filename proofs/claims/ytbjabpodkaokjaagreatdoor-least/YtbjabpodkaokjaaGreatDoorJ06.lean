import Derived.Test.YtbjabpodkaokjaaGreatDoorJ05
import Derived.Deep.QuietTactic
import Derived.BigQuiet
import Derived.Shelf.Spec.TrailingZeros
set_option linter.unusedVariables false
set_option linter.unusedSimpArgs false
set_option maxHeartbeats 4000000
set_option maxRecDepth 100000
namespace Go.Proofs.YtbjabpodkaokjaaGreatDoor
open Go.RowKit
open Go.ChangeMaps (setBlock)
theorem box4' {w:World}{b:Nat}{x0 x1 x2 x3:Value}{T:TypeId} (h:w.heap[b]?=some (.cells #[x0,x1,x2,x3] T)):w.cell? ⟨b,0,none⟩=some x0∧w.cell? ⟨b,1,none⟩=some x1∧w.cell? ⟨b,2,none⟩=some x2∧w.cell? ⟨b,3,none⟩=some x3:=by
 refine⟨?_,?_,?_,?_⟩<;>simp[World.cell?,h]
abbrev seV (x0 x1 x2 x3:Nat):Value:=.agg #[.int .u64 (x0:Int),.int .u64 (x1:Int),.int .u64 (x2:Int),.int .u64 (x3:Int)]
theorem Tryz.infoSe:(Tryz.prog.info? 150).map (fun i=>(i.zero,i.size,i.bytes))=some (some (.agg #[.int .u64 0,.int .u64 0,.int .u64 0,.int .u64 0]),4,32):=by kernel_rfl
theorem addSe_any (w:World) (p off:Nat) (v:Value) (n:Nat) (xs:List Value) (x0 x1 x2 x3:Nat) (hc:w.cell? ⟨p,off,none⟩=some v) (hf:w.frozen? ⟨p,off,none⟩=false) (hne:v.ownBlock≠some p)
  (ho:w.ownsRow 0 150 4 v n xs) (hn:n≤1048576) :
  Calls Tryz.prog 179 #[.pointer (some ⟨p,off,none⟩),seV x0 x1 x2 x3] w fun e w'=>e=.returned (.tuple #[])∧∃ g cap,w'.cell? ⟨p,off,none⟩=some (.slice (some ⟨g,0,none⟩) (n+1) cap) ∧
   w'.ownsRow 0 150 4 (.slice (some ⟨g,0,none⟩) (n+1) cap) (n+1) (xs++(seV x0 x1 x2 x3).cells.toList)∧g≠p∧(v.ownBlock=some g∨w.heap.size≤g)∧Ap p off v.ownBlock w w':=by
 have hp:p<w.heap.size:=cell_lt hc
 obtain⟨i0,hi0,hz0,hz1,hz2⟩:=info_parts Tryz.infoSe
 obtain⟨w1,hw1⟩:∃ w1,w1=w.alloc (.cells #[.int .u64 (x0:Int),.int .u64 (x1:Int),.int .u64 (x2:Int),.int .u64 (x3:Int)] 150):=⟨_,rfl⟩
 have hb1:Below w.heap.size w w1:=by rw[hw1];exact(Below.refl _ _).alloc (Nat.le_refl _) _
 have hc1:w1.cell? ⟨p,off,none⟩=some v:=cell_below hb1 hc
 have HO:Hid (w1.ownsRow 0 150 4 v n xs):=by rw[hw1];exact ho.alloc _
 have hx:w1.heap[w.heap.size]?=some (.cells #[.int .u64 (x0:Int),.int .u64 (x1:Int),.int .u64 (x2:Int),.int .u64 (x3:Int)] 150):=by rw[hw1];exact heap_alloc_new w _
 have HW:Hid (w1=w.alloc (.cells #[.int .u64 (x0:Int),.int .u64 (x1:Int),.int .u64 (x2:Int),.int .u64 (x3:Int)] 150)):=hw1
 obtain⟨y0,y1,y2,y3⟩:=box4' hx
 clear hw1 hx
 have c0n:(w1.alloc (.cells #[.int .u64 (x0:Int),.int .u64 (x1:Int),.int .u64 (x2:Int),.int .u64 (x3:Int)] 150)).cell? ⟨p,off,none⟩=some v:=cell_below ((Below.refl _ _).alloc (Nat.le_refl _) _) hc1
 have c0e:=World.new_ne w1 ⟨p,off,none⟩ hc1
 have hl0:∀ q,v.ownBlock=some q→q<w.heap.size:=fun q e=>own_lt ho e
 have HAP:Hid (∀ {w4:World}{g:Nat} (x:Value),((v.ownBlock=some g∧(w1.alloc (.cells #[.int .u64 (x0:Int),.int .u64 (x1:Int),.int .u64 (x2:Int),.int .u64 (x3:Int)] 150)).drew.grownBy w4 (some g))∨(g=(w1.alloc (.cells #[.int .u64 (x0:Int),.int .u64 (x1:Int),.int .u64 (x2:Int),.int .u64 (x3:Int)] 150)).heap.size∧(w1.alloc (.cells #[.int .u64 (x0:Int),.int .u64 (x1:Int),.int .u64 (x2:Int),.int .u64 (x3:Int)] 150)).drew.grownBy w4 none))→Ap p off v.ownBlock w (w4.setCell ⟨p,off,none⟩ x)∧g≠p∧(v.ownBlock=some g∨w.heap.size≤g)∧w4.frozen? ⟨p,off,none⟩=false∧w4.cell? ⟨p,off,none⟩=some v):=fun {w4 g} x hg=>by
  obtain⟨a1,a2,a3,a4⟩:=ap_of (x:=x) (hb1.trans (((Below.refl _ w1).alloc (Nat.le_refl _) _).drew.mono hb1.size)) hp hne hl0 hg hf
  refine⟨a1,a2,a3,a4,?_⟩
  have:w4.heap[p]?=w.heap[p]?:=by
   rcases hg with⟨h1,h2⟩|⟨h1,h2⟩
   ·exact(h2.block p (by have:=hb1.size;simp;omega) (by rw[←h1];exact fun e=>hne e.symm)).trans ((hb1.trans (((Below.refl _ w1).alloc (Nat.le_refl _) _).drew.mono hb1.size)).block p hp)
   ·exact(h2.block p (by have:=hb1.size;simp;omega) (by simp)).trans ((hb1.trans (((Below.refl _ w1).alloc (Nat.le_refl _) _).drew.mono hb1.size)).block p hp)
  rw[←hc];simp[World.cell?,this]
 clear hb1 hc hf ho hl0 hne
 go_enter Tryz.func179,Tryz.ntmps179
 go_wp2
 rw[←HW.out]
 go_region_law (refine step_append_str _ (by rfl) (.tmp 8) (.tmp 10) 144 (by rfl) 0 150 i0 _ 4 32 Tryz.underlying144 hi0 hz0 hz1 hz2 (by rfl) (by decide) v n xs (by rfl) (show World.ownsRow _ _ _ _ _ _ _ from World.ownsRow.alloc HO.out _) ⟨w1.heap.size,0,none⟩ 1 1 [.int .u64 (x0:Int),.int .u64 (x1:Int),.int .u64 (x2:Int),.int .u64 (x3:Int)] (by rfl) (by rfl) (World.news_of_block (w:=w1.alloc (.cells #[.int .u64 (x0:Int),.int .u64 (x1:Int),.int .u64 (x2:Int),.int .u64 (x3:Int)] 150)) (heap_alloc_new w1 _)) (by simp[Value.oneCell']) (by omega) (by unfold maxLen;omega) (by omega) (Nat.zero_le _) _ (by rfl) ?_;intro g4 k4 w4 ho4 hc4 hl4;obtain⟨a1,a2,a3,f0,e0⟩:=HAP.out (.slice (some ⟨g4,0,none⟩) (n+1) k4) hc4;have HA:Hid (g4≠p∧(v.ownBlock=some g4∨w.heap.size≤g4)∧Ap p off v.ownBlock w (w4.setCell ⟨p,off,none⟩ (.slice (some ⟨g4,0,none⟩) (n+1) k4))):=⟨a2,a3,a1⟩;have HO4:Hid (w4.ownsRow 0 150 4 (.slice (some ⟨g4,0,none⟩) (n+1) k4) (n+1) (xs++[.int .u64 (x0:Int),.int .u64 (x1:Int),.int .u64 (x2:Int),.int .u64 (x3:Int)])):=ho4;clear ho4 hc4 a1 a2 a3)
 all_goals go_wp2
 all_goals refine bodyPost_end (results_none rfl _ _ _) rfl ?_
 all_goals exact⟨rfl,g4,k4,by simp[go_sem,e0],own_blk HO4.out (fun b hb=>set_blk _ _ _ _ (by simp[Value.ownBlock] at hb;rw[←hb];exact HA.out.1)),HA.out⟩
theorem newSe_any (w:World) :
  Calls Tryz.prog 126 #[] w fun e w'=>e=.returned (.pointer (some ⟨w.heap.size+1,0,none⟩))∧NumAt 150 4 w' (w.heap.size+1) w.heap.size (.slice none 0 0) [] 0∧Below w.heap.size w w':=by
 have hmk:(Instr.makeMap 287 none).run Tryz.prog w=.ok (.map (some w.heap.size)) (w.alloc (.map #[] 0)):=run_makeMap _ _
 go_enter Tryz.func126,Tryz.ntmps126
 go_wp2
 go_ret
 exact⟨rfl,NumAt.made _ _ _ w,((Below.refl _ _).alloc (Nat.le_refl _) _).alloc (by simp) _⟩
theorem ofSe_old (w:World) (p mb:Nat) (v:Value) (vs:List Value) (tk:Nat) (x0 x1 x2 x3:Nat) (i:Nat) (h:NumAt 150 4 w p mb v vs tk) (hi:vs[i]?=some (seV x0 x1 x2 x3))
  (hr:∀ w1:World,w1.heap[mb]?=w.heap[mb]?→(Instr.lookup 287 (.map (some mb)) (seV x0 x1 x2 x3) true).run Tryz.prog w1=.ok (.tuple #[.int .i64 (i:Int),.bool true]) w1) :
  Calls Tryz.prog 128 #[.pointer (some ⟨p,0,none⟩),seV x0 x1 x2 x3] w fun e w'=>e=.returned (.int .i64 (i:Int))∧Below w.heap.size w w':=by
 obtain⟨w1,hw1⟩:∃ w1,w1=w.alloc (.cells #[.int .u64 (x0:Int),.int .u64 (x1:Int),.int .u64 (x2:Int),.int .u64 (x3:Int)] 150):=⟨_,rfl⟩
 have hb1:Below w.heap.size w w1:=by rw[hw1];exact(Below.refl _ _).alloc (Nat.le_refl _) _
 have hc1:w1.cell? ⟨p,0,none⟩=some (.map (some mb)):=cell_below hb1 h.c0
 have hx:w1.heap[w.heap.size]?=some (.cells #[.int .u64 (x0:Int),.int .u64 (x1:Int),.int .u64 (x2:Int),.int .u64 (x3:Int)] 150):=by rw[hw1];exact heap_alloc_new w _
 have hr1:=hr w1.drew (by show w1.heap[mb]?=_;exact hb1.block mb (h.lt (.inr (.inl rfl))))
 obtain⟨y0,y1,y2,y3⟩:=box4' hx
 have HW:Hid (w1=w.alloc (.cells #[.int .u64 (x0:Int),.int .u64 (x1:Int),.int .u64 (x2:Int),.int .u64 (x3:Int)] 150)):=hw1
 have HB:Hid (Below w.heap.size w w1):=hb1
 clear hw1 hx hb1 h hi hr
 go_enter Tryz.func128,Tryz.ntmps128
 go_wp2
 rw[←HW.out]
 go_region
 go_wp2
 go_ret
 exact⟨rfl,HB.out.drew⟩
theorem ofSe_new (w:World) (p mb:Nat) (v:Value) (vs:List Value) (tk:Nat) (x0 x1 x2 x3:Nat) (h:NumAt 150 4 w p mb v vs tk) (hn:vs.length≤1048576)
  (hr:∀ w1:World,w1.heap[mb]?=w.heap[mb]?→(Instr.lookup 287 (.map (some mb)) (seV x0 x1 x2 x3) true).run Tryz.prog w1=.ok (.tuple #[.int .i64 0,.bool false]) w1)
  (hu:∀ w1:World,w1.heap[mb]?=w.heap[mb]?→(Instr.mapUpdate 287 (.map (some mb)) (seV x0 x1 x2 x3) (.int .i64 (vs.length:Int))).run Tryz.prog w1=.ok () (setBlock w1 mb (.map (numEs (vs++[seV x0 x1 x2 x3])) (vs++[seV x0 x1 x2 x3]).length))) :
  Calls Tryz.prog 128 #[.pointer (some ⟨p,0,none⟩),seV x0 x1 x2 x3] w fun e w'=>e=.returned (.int .i64 (vs.length:Int)) ∧
   ∃ g cap,NumAt 150 4 w' p mb (.slice (some ⟨g,0,none⟩) (vs.length+1) cap) (vs++[seV x0 x1 x2 x3]) tk∧(v.ownBlock=some g∨w.heap.size≤g)∧Exc (Foot p mb v) w w':=by
 obtain⟨w1,hw1⟩:∃ w1,w1=w.alloc (.cells #[.int .u64 (x0:Int),.int .u64 (x1:Int),.int .u64 (x2:Int),.int .u64 (x3:Int)] 150):=⟨_,rfl⟩
 have hb1:Below w.heap.size w w1:=by rw[hw1];exact(Below.refl _ _).alloc (Nat.le_refl _) _
 have hc1:w1.cell? ⟨p,0,none⟩=some (.map (some mb)):=cell_below hb1 h.c0
 have hx:w1.heap[w.heap.size]?=some (.cells #[.int .u64 (x0:Int),.int .u64 (x1:Int),.int .u64 (x2:Int),.int .u64 (x3:Int)] 150):=by rw[hw1];exact heap_alloc_new w _
 have hm1:w1.heap[mb]?=w.heap[mb]?:=hb1.block mb (h.lt (.inr (.inl rfl)))
 have hr1:=hr w1.drew hm1
 have hl1:(Builtin.len_ #[287] 3 #[.map (some mb)]).run Tryz.prog w1.drew=.ok (.int .i64 (vs.length:Int)) w1.drew:=num_len _ Tryz.underlying287 (show w1.heap[mb]?=_ by rw[hm1];exact h.mp)
 obtain⟨w2,hw2⟩:∃ w2,w2=setBlock w1.drew.drew mb (.map (numEs (vs++[seV x0 x1 x2 x3])) (vs++[seV x0 x1 x2 x3]).length):=⟨_,rfl⟩
 have hu1:=hu w1.drew.drew hm1
 rw[←hw2] at hu1
 have hmlt:=h.lt (.inr (.inl rfl))
 have hblk:∀ k,k≠mb→w2.heap[k]?=w1.heap[k]?:=fun k hk=>by rw[hw2];simp[setBlock,Array.getElem?_setIfInBounds,Ne.symm hk];rfl
 have hx2:w2.heap[w.heap.size]?=some (.cells #[.int .u64 (x0:Int),.int .u64 (x1:Int),.int .u64 (x2:Int),.int .u64 (x3:Int)] 150):=by rw[hblk _ (by omega)];exact hx
 obtain⟨y0,y1,y2,y3⟩:=box4' hx
 obtain⟨z0,z1,z2,z3⟩:=box4' hx2
 have h1:NumAt 150 4 w1.drew.drew p mb v vs tk:=h.keep (fun k hk=>hb1.block k (h.lt hk))
 obtain⟨q1,q2,q3,q4,q5,q6,q7,q8⟩:=h1.put (seV x0 x1 x2 x3)
 rw[←hw2] at q1 q2 q3 q4 q5 q6
 have hadd:=fun(w9:World) (e9:∀ k,w9.heap[k]?=w2.heap[k]?)=>addSe_any w9 p 1 v vs.length (vs.flatMap fun x=>x.cells.toList) x0 x1 x2 x3 (by rw[←q1];simp[World.cell?,e9]) (by rw[←q3 1];simp[World.frozen?,e9]) h1.ne (own_blk q4 (fun k _=>e9 k)) hn
 have HADD:Hid (∀(w9:World) (e9:∀ k,w9.heap[k]?=w2.heap[k]?),Calls Tryz.prog 179 #[.pointer (some ⟨p,1,none⟩),seV x0 x1 x2 x3] w9 fun e w'=>e=.returned (.tuple #[])∧∃ g cap,w'.cell? ⟨p,1,none⟩=some (.slice (some ⟨g,0,none⟩) (vs.length+1) cap) ∧
   w'.ownsRow 0 150 4 (.slice (some ⟨g,0,none⟩) (vs.length+1) cap) (vs.length+1) ((vs.flatMap fun x=>x.cells.toList)++(seV x0 x1 x2 x3).cells.toList)∧g≠p∧(v.ownBlock=some g∨w9.heap.size≤g)∧Ap p 1 v.ownBlock w9 w'):=hadd
 have HX2:Hid (∀ w3:World,Ap p 1 v.ownBlock w2.drew w3→w3.heap[w.heap.size]?=some (.cells #[.int .u64 (x0:Int),.int .u64 (x1:Int),.int .u64 (x2:Int),.int .u64 (x3:Int)] 150)):=fun w3 a=>by
  rw[a.block w.heap.size ((Array.getElem?_eq_some_iff.1 hx2).1) (by have:=h.lt (.inl rfl);omega) (fun e=>by have:=own_lt h.own e.symm;omega)]
  exact hx2
 obtain⟨nv,hnv⟩:∃ nv,nv=vs.length:=⟨_,rfl⟩
 have HH:Hid (NumAt 150 4 w p mb v vs tk):=h
 have HNV:Hid (nv=vs.length):=hnv
 rw[←hnv] at hl1 hu1 ⊢
 have HW:Hid (w1=w.alloc (.cells #[.int .u64 (x0:Int),.int .u64 (x1:Int),.int .u64 (x2:Int),.int .u64 (x3:Int)] 150)):=hw1
 have HB:Hid (Below w.heap.size w w1.drew.drew):=hb1.drew.drew
 have HW2:Hid (w2=setBlock w1.drew.drew mb (.map (numEs (vs++[seV x0 x1 x2 x3])) (vs++[seV x0 x1 x2 x3]).length)):=hw2
 clear hw1 hx hx2 hb1 h hr hu hw2 hm1 hblk h1 q1 q2 q3 q4 q5 q6 q7 q8 hadd hnv hn hmlt
 go_enter Tryz.func128,Tryz.ntmps128
 go_wp2
 rw[←HW.out]
 go_region
 go_wp2
 go_region_law (refine step_mapUpdate _ (by rfl) (.tmp 26) (.tmp 27) (.tmp 28) 287 (by rfl) _ _ _ (by rfl) (by rfl) (by rfl) _ hu1 ?_)
 all_goals go_wp2
 all_goals go_region_held3 (fun w'=>w'.cell? ⟨w.heap.size,0,none⟩=some (.int .u64 (x0:Int))∧w'.cell? ⟨w.heap.size,1,none⟩=some (.int .u64 (x1:Int))∧w'.cell? ⟨w.heap.size,2,none⟩=some (.int .u64 (x2:Int))∧w'.cell? ⟨w.heap.size,3,none⟩=some (.int .u64 (x3:Int))) (go_keep) ((go_at_call 179;refine(HADD.out w2.drew (fun k=>rfl)).mono ?_;rintro e w3 ⟨rfl,g,cap,a1,a2,a3,a4,a5⟩;obtain⟨r0,r1,r2,r3⟩:=box4' (HX2.out w3 a5);have HN:Hid (∃ g cap,NumAt 150 4 w3 p mb (.slice (some ⟨g,0,none⟩) (nv+1) cap) (vs++[seV x0 x1 x2 x3]) tk∧(v.ownBlock=some g∨w.heap.size≤g)∧Exc (Foot p mb v) w w3):=(by rw[HNV.out];exact⟨g,cap,HH.out.grow HB.out HW2.out a1 a2 a3 a4 ⟨a5.os,a5.tape,a5.output,a5.size,a5.block,a5.cell,a5.fz⟩⟩);clear a1 a2 a3 a4 a5))
 all_goals go_wp2
 all_goals go_ret
 all_goals exact⟨rfl,HN.out⟩
structure W4 where
 x0:Nat
 x1:Nat
 x2:Nat
 x3:Nat
 deriving DecidableEq
structure W4.ok (s:W4):Prop where
 l0:s.x0<18446744073709551616
 l1:s.x1<18446744073709551616
 l2:s.x2<18446744073709551616
 l3:s.x3<18446744073709551616
def W4.v (s:W4):Value:=seV s.x0 s.x1 s.x2 s.x3
theorem W4.v_inj {s t:W4} (h:s.v=t.v):s=t:=by
 obtain⟨a0,a1,a2,a3⟩:=s
 obtain⟨b0,b1,b2,b3⟩:=t
 simp[W4.v] at h
 simp only[W4.mk.injEq]
 omega
theorem w4_old {l:List W4}{s:W4}{i:Nat} (h:(l.map W4.v)[i]?=some s.v):l[i]?=some s:=by
 rw[List.getElem?_map] at h
 obtain⟨y,hy,e⟩:=Option.map_eq_some_iff.1 h
 rw[hy,W4.v_inj e]
theorem w4_mem {l:List W4}{s:W4}:s.v∈l.map W4.v↔s∈l:=
 ⟨fun h=>by obtain⟨y,hy,e⟩:=List.mem_map.1 h;rw[←W4.v_inj e];exact hy,fun h=>List.mem_map_of_mem h⟩
theorem ofSe_any (w:World) (p mb:Nat) (v:Value) (l:List W4) (tk:Nat) (s:W4) (h:NumAt 150 4 w p mb v (l.map W4.v) tk) (hl:∀ y∈l,y.ok) (hs:s.ok) (hn:l.length≤1048576) (hd:l.Nodup) :
  Calls Tryz.prog 128 #[.pointer (some ⟨p,0,none⟩),s.v] w fun e w'=>e=.returned (.int .i64 (((pushM l s).idxOf s:Nat):Int)) ∧
   ∃ v',NumAt 150 4 w' p mb v' ((pushM l s).map W4.v) tk∧(∀ g,v'.ownBlock=some g→v.ownBlock=some g∨w.heap.size≤g)∧Exc (Foot p mb v) w w':=by
 have hks:∀ y∈l.map W4.v,∃ q,keyOf Tryz.prog 150 y=some q:=fun y hy=>by
  obtain⟨z,hz,rfl⟩:=List.mem_map.1 hy
  have:=hl z hz
  exact key_set _ _ _ _ this.l0 this.l1 this.l2 this.l3
 have hk:∃ q,keyOf Tryz.prog 150 s.v=some q:=key_set _ _ _ _ hs.l0 hs.l1 hs.l2 hs.l3
 by_cases hm:s∈l
 ·obtain⟨i,hi⟩:=List.mem_iff_getElem?.1 hm
  have hi':(l.map W4.v)[i]?=some s.v:=by rw[List.getElem?_map,hi];rfl
  refine(ofSe_old w p mb v (l.map W4.v) tk s.x0 s.x1 s.x2 s.x3 i h hi' (fun w1 e1=>?_)).mono ?_
  ·rcases num_look (x:=s.v) keyed_set Tryz.underlying287 (zi0 w1) (e1.trans h.mp) hks hk with⟨h1,_⟩|⟨j,h1,h2⟩
   ·exact absurd (w4_mem.2 hm) h1
   ·have e3:=idx_of_get hd (w4_old h1)
    rw[idx_of_get hd hi] at e3
    subst e3
    exact h2
  ·rintro e w' ⟨rfl,hb⟩
   have e3:=idx_of_get hd hi
   simp only[pushM,if_pos hm,e3,true_and]
   exact⟨v,h.keep (fun k hk=>hb.block k (h.lt hk)),fun g hg=>.inl hg,Exc.of_below _ hb⟩
 ·have hm':s.v ∉ l.map W4.v:=fun q=>hm (w4_mem.1 q)
  refine(ofSe_new w p mb v (l.map W4.v) tk s.x0 s.x1 s.x2 s.x3 h (by simpa using hn) (fun w1 e1=>?_) (fun w1 e1=>?_)).mono ?_
  ·rcases num_look (x:=s.v) keyed_set Tryz.underlying287 (zi0 w1) (e1.trans h.mp) hks hk with⟨_,h1⟩|⟨j,h1,h2⟩
   ·exact h1
   ·exact absurd (List.mem_of_getElem? h1) hm'
  ·exact num_put keyed_set Tryz.underlying287 (e1.trans h.mp) hks hk hm'
  ·rintro e w' ⟨rfl,g,cap,h1,h2,h3⟩
   have e3:(l++[s]).idxOf s=l.length:=idx_of_get (by have:=pushM_nodup hd s;rwa [pushM,if_neg hm] at this) (by simp)
   simp only[pushM,if_neg hm,e3,List.length_map,true_and]
   refine⟨.slice (some ⟨g,0,none⟩) ((l.map W4.v).length+1) cap,?_,?_,h3⟩
   ·rw[List.map_append];exact h1
   ·intro q hq
    simp[Value.ownBlock] at hq
    subst hq
    exact h2
theorem Tryz.infoSg:(Tryz.prog.info? 9).map (fun i=>(i.zero,i.size,i.bytes))=some (some (.string (ba [])),1,16):=by kernel_rfl
theorem addSg_any (w:World) (p off:Nat) (v:Value) (n:Nat) (xs:List Value) (s:ByteArray) (hc:w.cell? ⟨p,off,none⟩=some v) (hf:w.frozen? ⟨p,off,none⟩=false) (hne:v.ownBlock≠some p)
  (ho:w.ownsRow 0 9 1 v n xs) (hn:n≤1048576) :
  Calls Tryz.prog 185 #[.pointer (some ⟨p,off,none⟩),Value.string s] w fun e w'=>e=.returned (.tuple #[])∧∃ g cap,w'.cell? ⟨p,off,none⟩=some (.slice (some ⟨g,0,none⟩) (n+1) cap) ∧
   w'.ownsRow 0 9 1 (.slice (some ⟨g,0,none⟩) (n+1) cap) (n+1) (xs++(Value.string s).cells.toList)∧g≠p∧(v.ownBlock=some g∨w.heap.size≤g)∧Ap p off v.ownBlock w w':=by
 have hp:p<w.heap.size:=cell_lt hc
 obtain⟨i0,hi0,hz0,hz1,hz2⟩:=info_parts Tryz.infoSg
 have HO:Hid (w.ownsRow 0 9 1 v n xs):=ho
 have c0n:(w.alloc (.cells #[Value.string s] 9)).cell? ⟨p,off,none⟩=some v:=cell_below ((Below.refl _ _).alloc (Nat.le_refl _) _) hc
 have c0e:=World.new_ne w ⟨p,off,none⟩ hc
 have hl0:∀ q,v.ownBlock=some q→q<w.heap.size:=fun q e=>own_lt ho e
 have HAP:Hid (∀ {w4:World}{g:Nat} (x:Value),((v.ownBlock=some g∧(w.alloc (.cells #[Value.string s] 9)).grownBy w4 (some g))∨(g=(w.alloc (.cells #[Value.string s] 9)).heap.size∧(w.alloc (.cells #[Value.string s] 9)).grownBy w4 none))→Ap p off v.ownBlock w (w4.setCell ⟨p,off,none⟩ x)∧g≠p∧(v.ownBlock=some g∨w.heap.size≤g)∧w4.frozen? ⟨p,off,none⟩=false∧w4.cell? ⟨p,off,none⟩=some v):=fun {w4 g} x hg=>by
  obtain⟨a1,a2,a3,a4⟩:=ap_of (x:=x) ((Below.refl _ w).alloc (Nat.le_refl _) _) hp hne hl0 hg hf
  refine⟨a1,a2,a3,a4,?_⟩
  have:w4.heap[p]?=w.heap[p]?:=by
   rcases hg with⟨h1,h2⟩|⟨h1,h2⟩
   ·exact(h2.block p (by simp;omega) (by rw[←h1];exact fun e=>hne e.symm)).trans (((Below.refl _ w).alloc (Nat.le_refl _) _).block p hp)
   ·exact(h2.block p (by simp;omega) (by simp)).trans (((Below.refl _ w).alloc (Nat.le_refl _) _).block p hp)
  rw[←hc];simp[World.cell?,this]
 clear hf ho hl0 hne
 go_enter Tryz.func185,Tryz.ntmps185
 go_wp2_with (at_builtin;refine wpList_append_str _ rfl (.tmp 8) (.tmp 10) 57 rfl 0 9 i0 _ 1 16 Tryz.underlying57 hi0 hz0 hz1 hz2 rfl (by decide) v n xs rfl (World.ownsRow.alloc HO.out _) ⟨w.heap.size,0,none⟩ 1 1 [Value.string s] rfl rfl (World.news_of_block (w:=w.alloc (.cells #[Value.string s] 9)) (heap_alloc_new w _)) (by simp[Value.oneCell']) (by omega) (by unfold maxLen;omega) (by omega) (Nat.zero_le _) _ rfl ?_;intro g4 k4 w4 ho4 hc4 hl4;obtain⟨a1,a2,a3,f0,e0⟩:=HAP.out (.slice (some ⟨g4,0,none⟩) (n+1) k4) hc4;have HA:Hid (g4≠p∧(v.ownBlock=some g4∨w.heap.size≤g4)∧Ap p off v.ownBlock w (w4.setCell ⟨p,off,none⟩ (.slice (some ⟨g4,0,none⟩) (n+1) k4))):=⟨a2,a3,a1⟩;have HO4:Hid (w4.ownsRow 0 9 1 (.slice (some ⟨g4,0,none⟩) (n+1) k4) (n+1) (xs++[Value.string s])):=ho4;clear ho4 hc4 a1 a2 a3)
 refine bodyPost_end (results_none rfl _ _ _) rfl ?_
 exact⟨rfl,g4,k4,by simp[go_sem,e0],own_blk HO4.out (fun b hb=>set_blk _ _ _ _ (by simp[Value.ownBlock] at hb;rw[←hb];exact HA.out.1)),HA.out⟩
theorem newSg_any (w:World) :
  Calls Tryz.prog 138 #[] w fun e w'=>e=.returned (.pointer (some ⟨w.heap.size+1,0,none⟩))∧NumAt 9 1 w' (w.heap.size+1) w.heap.size (.slice none 0 0) [] 0∧Below w.heap.size w w':=by
 have hmk:(Instr.makeMap 304 none).run Tryz.prog w=.ok (.map (some w.heap.size)) (w.alloc (.map #[] 0)):=run_makeMap _ _
 go_enter Tryz.func138,Tryz.ntmps138
 go_wp2
 go_ret
 exact⟨rfl,NumAt.made _ _ _ w,((Below.refl _ _).alloc (Nat.le_refl _) _).alloc (by simp) _⟩
theorem countSg_any (w:World) (p mb:Nat) (v:Value) (vs:List Value) (tk:Nat) (h:NumAt 9 1 w p mb v vs tk) :
  Calls Tryz.prog 141 #[.pointer (some ⟨p,0,none⟩)] w fun e w'=>e=.returned (.int .i64 (vs.length:Int))∧w'=w:=by
 have c0:=h.c0
 have hm:=h.mp
 have hl:(Builtin.len_ #[304] 3 #[.map (some mb)]).run Tryz.prog w=.ok (.int .i64 (vs.length:Int)) w:=num_len _ Tryz.underlying304 hm
 go_enter Tryz.func141,Tryz.ntmps141
 go_wp2
 go_ret
 exact⟨rfl,rfl⟩
theorem ofSg_old (w:World) (p mb:Nat) (v:Value) (vs:List Value) (tk:Nat) (s:ByteArray) (i:Nat) (h:NumAt 9 1 w p mb v vs tk)
  (hr:(Instr.lookup 304 (.map (some mb)) (Value.string s) true).run Tryz.prog w=.ok (.tuple #[.int .i64 (i:Int),.bool true]) w) :
  Calls Tryz.prog 139 #[.pointer (some ⟨p,0,none⟩),Value.string s] w fun e w'=>e=.returned (.int .i64 (i:Int))∧w'=w:=by
 have c0:=h.c0
 clear h
 go_enter Tryz.func139,Tryz.ntmps139
 go_wp2
 go_ret
 exact⟨rfl,rfl⟩
theorem ofSg_new (w:World) (p mb:Nat) (v:Value) (vs:List Value) (tk:Nat) (s:ByteArray) (h:NumAt 9 1 w p mb v vs tk) (hn:vs.length≤1048576)
  (hr:(Instr.lookup 304 (.map (some mb)) (Value.string s) true).run Tryz.prog w=.ok (.tuple #[.int .i64 0,.bool false]) w)
  (hu:(Instr.mapUpdate 304 (.map (some mb)) (Value.string s) (.int .i64 (vs.length:Int))).run Tryz.prog w=.ok () (setBlock w mb (.map (numEs (vs++[Value.string s])) (vs++[Value.string s]).length))) :
  Calls Tryz.prog 139 #[.pointer (some ⟨p,0,none⟩),Value.string s] w fun e w'=>e=.returned (.int .i64 (vs.length:Int)) ∧
   ∃ g cap,NumAt 9 1 w' p mb (.slice (some ⟨g,0,none⟩) (vs.length+1) cap) (vs++[Value.string s]) tk∧(v.ownBlock=some g∨w.heap.size≤g)∧Exc (Foot p mb v) w w':=by
 have c0:=h.c0
 have hl1:(Builtin.len_ #[304] 3 #[.map (some mb)]).run Tryz.prog w=.ok (.int .i64 (vs.length:Int)) w:=num_len _ Tryz.underlying304 h.mp
 obtain⟨w2,hw2⟩:∃ w2,w2=setBlock w mb (.map (numEs (vs++[Value.string s])) (vs++[Value.string s]).length):=⟨_,rfl⟩
 rw[←hw2] at hu
 obtain⟨q1,q2,q3,q4,q5,q6,q7,q8⟩:=h.put (Value.string s)
 rw[←hw2] at q1 q2 q3 q4 q5 q6
 have HADD:=addSg_any w2 p 1 v vs.length (vs.flatMap fun x=>x.cells.toList) s q1 (q3 1) h.ne q4 hn
 obtain⟨nv,hnv⟩:∃ nv,nv=vs.length:=⟨_,rfl⟩
 have HH:Hid (NumAt 9 1 w p mb v vs tk):=h
 have HNV:Hid (nv=vs.length):=hnv
 rw[←hnv] at hl1 hu HADD ⊢
 have HW2:Hid (w2=setBlock w mb (.map (numEs (vs++[Value.string s])) (vs++[Value.string s]).length)):=hw2
 clear h hw2 q1 q2 q3 q4 q5 q6 q7 q8 hnv hn
 go_enter Tryz.func139,Tryz.ntmps139
 go_wp2_with (go_at_call 185;refine HADD.mono ?_;rintro e w3 ⟨rfl,g,cap,a1,a2,a3,a4,a5⟩;have HN:Hid (∃ g cap,NumAt 9 1 w3 p mb (.slice (some ⟨g,0,none⟩) (nv+1) cap) (vs++[Value.string s]) tk∧(v.ownBlock=some g∨w.heap.size≤g)∧Exc (Foot p mb v) w w3):=(by rw[HNV.out] at a1 a2 ⊢;exact⟨g,cap,HH.out.grow (Below.refl _ _) HW2.out a1 a2 a3 a4 a5⟩);clear a1 a2 a3 a4 a5)
 go_ret
 exact⟨rfl,HN.out⟩
theorem Tryz.infoBy:(Tryz.prog.info? 5).map (fun i=>(i.zero,i.size,i.bytes))=some (some (.int .u8 0),1,1):=by kernel_rfl
theorem addBy_any (w:World) (p off:Nat) (v:Value) (n:Nat) (xs:List Value) (c:Nat) (hc:w.cell? ⟨p,off,none⟩=some v) (hf:w.frozen? ⟨p,off,none⟩=false) (hne:v.ownBlock≠some p)
  (ho:w.ownsRow 0 5 1 v n xs) (hn:n≤1048576) :
  Calls Tryz.prog 143 #[.pointer (some ⟨p,off,none⟩),Value.int .u8 (c:Int)] w fun e w'=>e=.returned (.tuple #[])∧∃ g cap,w'.cell? ⟨p,off,none⟩=some (.slice (some ⟨g,0,none⟩) (n+1) cap) ∧
   w'.ownsRow 0 5 1 (.slice (some ⟨g,0,none⟩) (n+1) cap) (n+1) (xs++(Value.int .u8 (c:Int)).cells.toList)∧g≠p∧(v.ownBlock=some g∨w.heap.size≤g)∧Ap p off v.ownBlock w w':=by
 have hp:p<w.heap.size:=cell_lt hc
 obtain⟨i0,hi0,hz0,hz1,hz2⟩:=info_parts Tryz.infoBy
 have HO:Hid (w.ownsRow 0 5 1 v n xs):=ho
 have c0n:(w.alloc (.cells #[Value.int .u8 (c:Int)] 5)).cell? ⟨p,off,none⟩=some v:=cell_below ((Below.refl _ _).alloc (Nat.le_refl _) _) hc
 have c0e:=World.new_ne w ⟨p,off,none⟩ hc
 have hl0:∀ q,v.ownBlock=some q→q<w.heap.size:=fun q e=>own_lt ho e
 have HAP:Hid (∀ {w4:World}{g:Nat} (x:Value),((v.ownBlock=some g∧(w.alloc (.cells #[Value.int .u8 (c:Int)] 5)).grownBy w4 (some g))∨(g=(w.alloc (.cells #[Value.int .u8 (c:Int)] 5)).heap.size∧(w.alloc (.cells #[Value.int .u8 (c:Int)] 5)).grownBy w4 none))→Ap p off v.ownBlock w (w4.setCell ⟨p,off,none⟩ x)∧g≠p∧(v.ownBlock=some g∨w.heap.size≤g)∧w4.frozen? ⟨p,off,none⟩=false∧w4.cell? ⟨p,off,none⟩=some v):=fun {w4 g} x hg=>by
  obtain⟨a1,a2,a3,a4⟩:=ap_of (x:=x) ((Below.refl _ w).alloc (Nat.le_refl _) _) hp hne hl0 hg hf
  refine⟨a1,a2,a3,a4,?_⟩
  have:w4.heap[p]?=w.heap[p]?:=by
   rcases hg with⟨h1,h2⟩|⟨h1,h2⟩
   ·exact(h2.block p (by simp;omega) (by rw[←h1];exact fun e=>hne e.symm)).trans (((Below.refl _ w).alloc (Nat.le_refl _) _).block p hp)
   ·exact(h2.block p (by simp;omega) (by simp)).trans (((Below.refl _ w).alloc (Nat.le_refl _) _).block p hp)
  rw[←hc];simp[World.cell?,this]
 clear hf ho hl0 hne
 go_enter Tryz.func143,Tryz.ntmps143
 go_wp2_with (at_builtin;refine wpList_append_str _ rfl (.tmp 8) (.tmp 10) 73 rfl 0 5 i0 _ 1 1 Tryz.underlying73 hi0 hz0 hz1 hz2 rfl (by decide) v n xs rfl (World.ownsRow.alloc HO.out _) ⟨w.heap.size,0,none⟩ 1 1 [Value.int .u8 (c:Int)] rfl rfl (World.news_of_block (w:=w.alloc (.cells #[Value.int .u8 (c:Int)] 5)) (heap_alloc_new w _)) (by simp[Value.oneCell']) (by omega) (by unfold maxLen;omega) (by omega) (Nat.zero_le _) _ rfl ?_;intro g4 k4 w4 ho4 hc4 hl4;obtain⟨a1,a2,a3,f0,e0⟩:=HAP.out (.slice (some ⟨g4,0,none⟩) (n+1) k4) hc4;have HA:Hid (g4≠p∧(v.ownBlock=some g4∨w.heap.size≤g4)∧Ap p off v.ownBlock w (w4.setCell ⟨p,off,none⟩ (.slice (some ⟨g4,0,none⟩) (n+1) k4))):=⟨a2,a3,a1⟩;have HO4:Hid (w4.ownsRow 0 5 1 (.slice (some ⟨g4,0,none⟩) (n+1) k4) (n+1) (xs++[Value.int .u8 (c:Int)])):=ho4;clear ho4 hc4 a1 a2 a3)
 refine bodyPost_end (results_none rfl _ _ _) rfl ?_
 exact⟨rfl,g4,k4,by simp[go_sem,e0],own_blk HO4.out (fun b hb=>set_blk _ _ _ _ (by simp[Value.ownBlock] at hb;rw[←hb];exact HA.out.1)),HA.out⟩
theorem newBy_any (w:World) :
  Calls Tryz.prog 81 #[] w fun e w'=>e=.returned (.pointer (some ⟨w.heap.size+1,0,none⟩))∧NumAt 5 1 w' (w.heap.size+1) w.heap.size (.slice none 0 0) [] 0∧Below w.heap.size w w':=by
 have hmk:(Instr.makeMap 258 none).run Tryz.prog w=.ok (.map (some w.heap.size)) (w.alloc (.map #[] 0)):=run_makeMap _ _
 go_enter Tryz.func81,Tryz.ntmps81
 go_wp2
 go_ret
 exact⟨rfl,NumAt.made _ _ _ w,((Below.refl _ _).alloc (Nat.le_refl _) _).alloc (by simp) _⟩
theorem ofBy_old (w:World) (p mb:Nat) (v:Value) (vs:List Value) (tk:Nat) (c:Nat) (i:Nat) (h:NumAt 5 1 w p mb v vs tk)
  (hr:(Instr.lookup 258 (.map (some mb)) (Value.int .u8 (c:Int)) true).run Tryz.prog w=.ok (.tuple #[.int .i64 (i:Int),.bool true]) w) :
  Calls Tryz.prog 82 #[.pointer (some ⟨p,0,none⟩),Value.int .u8 (c:Int)] w fun e w'=>e=.returned (.int .i64 (i:Int))∧w'=w:=by
 have c0:=h.c0
 clear h
 go_enter Tryz.func82,Tryz.ntmps82
 go_wp2
 go_ret
 exact⟨rfl,rfl⟩
theorem ofBy_new (w:World) (p mb:Nat) (v:Value) (vs:List Value) (tk:Nat) (c:Nat) (h:NumAt 5 1 w p mb v vs tk) (hn:vs.length≤1048576)
  (hr:(Instr.lookup 258 (.map (some mb)) (Value.int .u8 (c:Int)) true).run Tryz.prog w=.ok (.tuple #[.int .i64 0,.bool false]) w)
  (hu:(Instr.mapUpdate 258 (.map (some mb)) (Value.int .u8 (c:Int)) (.int .i64 (vs.length:Int))).run Tryz.prog w=.ok () (setBlock w mb (.map (numEs (vs++[Value.int .u8 (c:Int)])) (vs++[Value.int .u8 (c:Int)]).length))) :
  Calls Tryz.prog 82 #[.pointer (some ⟨p,0,none⟩),Value.int .u8 (c:Int)] w fun e w'=>e=.returned (.int .i64 (vs.length:Int)) ∧
   ∃ g cap,NumAt 5 1 w' p mb (.slice (some ⟨g,0,none⟩) (vs.length+1) cap) (vs++[Value.int .u8 (c:Int)]) tk∧(v.ownBlock=some g∨w.heap.size≤g)∧Exc (Foot p mb v) w w':=by
 have c0:=h.c0
 have hl1:(Builtin.len_ #[258] 3 #[.map (some mb)]).run Tryz.prog w=.ok (.int .i64 (vs.length:Int)) w:=num_len _ Tryz.underlying258 h.mp
 obtain⟨w2,hw2⟩:∃ w2,w2=setBlock w mb (.map (numEs (vs++[Value.int .u8 (c:Int)])) (vs++[Value.int .u8 (c:Int)]).length):=⟨_,rfl⟩
 rw[←hw2] at hu
 obtain⟨q1,q2,q3,q4,q5,q6,q7,q8⟩:=h.put (Value.int .u8 (c:Int))
 rw[←hw2] at q1 q2 q3 q4 q5 q6
 have HADD:=addBy_any w2 p 1 v vs.length (vs.flatMap fun x=>x.cells.toList) c q1 (q3 1) h.ne q4 hn
 obtain⟨nv,hnv⟩:∃ nv,nv=vs.length:=⟨_,rfl⟩
 have HH:Hid (NumAt 5 1 w p mb v vs tk):=h
 have HNV:Hid (nv=vs.length):=hnv
 rw[←hnv] at hl1 hu HADD ⊢
 have HW2:Hid (w2=setBlock w mb (.map (numEs (vs++[Value.int .u8 (c:Int)])) (vs++[Value.int .u8 (c:Int)]).length)):=hw2
 clear h hw2 q1 q2 q3 q4 q5 q6 q7 q8 hnv hn
 go_enter Tryz.func82,Tryz.ntmps82
 go_wp2_with (go_at_call 143;refine HADD.mono ?_;rintro e w3 ⟨rfl,g,cap,a1,a2,a3,a4,a5⟩;have HN:Hid (∃ g cap,NumAt 5 1 w3 p mb (.slice (some ⟨g,0,none⟩) (nv+1) cap) (vs++[Value.int .u8 (c:Int)]) tk∧(v.ownBlock=some g∨w.heap.size≤g)∧Exc (Foot p mb v) w w3):=(by rw[HNV.out] at a1 a2 ⊢;exact⟨g,cap,HH.out.grow (Below.refl _ _) HW2.out a1 a2 a3 a4 a5⟩);clear a1 a2 a3 a4 a5)
 go_ret
 exact⟨rfl,HN.out⟩
theorem takeBy_none (w:World) (p mb:Nat) (v:Value) (vs:List Value) (h:NumAt 5 1 w p mb v vs vs.length) :
  Calls Tryz.prog 144 #[.pointer (some ⟨p,1,none⟩)] w fun e w'=>e=.returned (.tuple #[.int .u8 0,.bool false])∧Below w.heap.size w w':=by
 obtain⟨a,c,hv⟩:=ownsRow_shape' h.own
 have c1:=h.c1
 have c2:=h.c2
 rw[hv] at c1
 obtain⟨nv,hnv⟩:∃ nv,nv=vs.length:=⟨_,rfl⟩
 rw[←hnv] at c1 c2
 clear h hnv hv
 go_enter Tryz.func144,Tryz.ntmps144
 go_wp2
 go_region
 go_wp2
 go_ret2
 exact⟨rfl,(Below.refl _ _).drew⟩
theorem takeBy_some (w:World) (p mb:Nat) (v:Value) (vs:List Value) (tk:Nat) (c:Nat) (h:NumAt 5 1 w p mb v vs tk) (hx:vs[tk]?=some (.int .u8 (c:Int))) (hn:vs.length≤1048576) :
  Calls Tryz.prog 144 #[.pointer (some ⟨p,1,none⟩)] w fun e w'=>e=.returned (.tuple #[.int .u8 (c:Int),.bool true])∧NumAt 5 1 w' p mb v vs (tk+1)∧Exc (Foot p mb v) w w':=by
 have htl:tk<vs.length:=(List.getElem?_eq_some_iff.1 hx).1
 obtain⟨g,cap,hv,hcs⟩:=h.at hx (by omega)
 have c1:=h.c1
 have c2:=h.c2
 have f2:=h.fz 2
 rw[hv] at c1
 have k0:=hcs 0 (by omega)
 simp[Value.cells] at k0
 have hgp:g≠p:=by have:=h.ne;rw[hv] at this;simp[Value.ownBlock] at this;exact this
 have ne5:=Ne.symm hgp
 obtain⟨nv,hnv⟩:∃ nv,nv=vs.length:=⟨_,rfl⟩
 have htn:(tk:Int)<nv:=by omega
 have hte:((tk:Int)==nv)=false:=by simp;omega
 have htl2:tk≤1048576:=by omega
 have HTL:Hid (tk<vs.length):=htl
 rw[←hnv] at c1
 have HN1:Hid (NumAt 5 1 w p mb v vs tk):=h
 clear h hnv hv hcs hx htl hn
 go_enter Tryz.func144,Tryz.ntmps144
 go_wp2
 go_region
 go_wp2
 go_region
 go_wp2
 go_ret2
 exact⟨rfl,(HN1.out.took HTL.out).drew2,Exc.drew (Exc.drew (exc_set (.inl rfl)))⟩
theorem nextBy_none (w:World) (p mb:Nat) (v:Value) (vs:List Value) (h:NumAt 5 1 w p mb v vs vs.length) :
  Calls Tryz.prog 83 #[.pointer (some ⟨p,0,none⟩)] w fun e w'=>e=.returned (.tuple #[.int .u8 0,.bool false])∧Below w.heap.size w w':=by
 have ht:=takeBy_none w p mb v vs h
 clear h
 go_enter Tryz.func83,Tryz.ntmps83
 go_wp2_with (go_at_call 144;refine ht.mono ?_;rintro e w2 ⟨rfl,hb2⟩;have HB2:Hid (Below w.heap.size w w2):=hb2;clear hb2)
 go_ret2
 exact⟨rfl,HB2.out⟩
theorem nextBy_some (w:World) (p mb:Nat) (v:Value) (vs:List Value) (tk:Nat) (c:Nat) (h:NumAt 5 1 w p mb v vs tk) (hx:vs[tk]?=some (.int .u8 (c:Int))) (hn:vs.length≤1048576) :
  Calls Tryz.prog 83 #[.pointer (some ⟨p,0,none⟩)] w fun e w'=>e=.returned (.tuple #[.int .u8 (c:Int),.bool true])∧NumAt 5 1 w' p mb v vs (tk+1)∧Exc (Foot p mb v) w w':=by
 have ht:=takeBy_some w p mb v vs tk c h hx hn
 clear h hx hn
 go_enter Tryz.func83,Tryz.ntmps83
 go_wp2_with (go_at_call 144;refine ht.mono ?_;rintro e w2 ⟨rfl,hb2⟩;have HB2:Hid (NumAt 5 1 w2 p mb v vs (tk+1)∧Exc (Foot p mb v) w w2):=hb2;clear hb2)
 go_ret2
 exact⟨rfl,HB2.out⟩
theorem or_u64' (x y:Nat) (hx:x<18446744073709551616) (hy:y<18446744073709551616):bits BinOp.or IntKind.u64 (x:Int) (y:Int)=((x ||| y:Nat):Int):=bits_or_u64_nat x y hx hy
theorem idx4_0 (a b c d:Value) (w:World):(Instr.index 148 (.agg #[a,b,c,d]) (.int .i64 0)).run Tryz.prog w=.ok a w:=by kernel_rfl
theorem idx4_1 (a b c d:Value) (w:World):(Instr.index 148 (.agg #[a,b,c,d]) (.int .i64 1)).run Tryz.prog w=.ok b w:=by kernel_rfl
theorem idx4_2 (a b c d:Value) (w:World):(Instr.index 148 (.agg #[a,b,c,d]) (.int .i64 2)).run Tryz.prog w=.ok c w:=by kernel_rfl
theorem idx4_3 (a b c d:Value) (w:World):(Instr.index 148 (.agg #[a,b,c,d]) (.int .i64 3)).run Tryz.prog w=.ok d w:=by kernel_rfl
structure Mid (w:World) (b off k:Nat) (x0 x1 x2 x3 y0 y1 y2 y3:Nat):Prop where
 c0:w.cell? ⟨b,off,none⟩=some (.int .u64 ((if 0<k then y0 else x0:Nat):Int))
 c1:w.cell? ⟨b,off+1,none⟩=some (.int .u64 ((if 1<k then y1 else x1:Nat):Int))
 c2:w.cell? ⟨b,off+2,none⟩=some (.int .u64 ((if 2<k then y2 else x2:Nat):Int))
 c3:w.cell? ⟨b,off+3,none⟩=some (.int .u64 ((if 3<k then y3 else x3:Nat):Int))
 fz:∀ o,w.frozen? ⟨b,o,none⟩=false
theorem Mid.put0 {w:World}{b off x0 x1 x2 x3 y0 y1 y2 y3:Nat} (h:Mid w b off 0 x0 x1 x2 x3 y0 y1 y2 y3):Mid (w.setCell ⟨b,off,none⟩ (.int .u64 y0)) b off 1 x0 x1 x2 x3 y0 y1 y2 y3:=by
 obtain⟨c0,c1,c2,c3,fz⟩:=h
 simp at c0 c1 c2 c3
 refine⟨?_,?_,?_,?_,fun o=>?_⟩<;>simp[c0,c1,c2,c3,fz,go_sem]
theorem Mid.put1 {w:World}{b off x0 x1 x2 x3 y0 y1 y2 y3:Nat} (h:Mid w b off 1 x0 x1 x2 x3 y0 y1 y2 y3):Mid (w.setCell ⟨b,off+1,none⟩ (.int .u64 y1)) b off 2 x0 x1 x2 x3 y0 y1 y2 y3:=by
 obtain⟨c0,c1,c2,c3,fz⟩:=h
 simp at c0 c1 c2 c3
 refine⟨?_,?_,?_,?_,fun o=>?_⟩<;>simp[c0,c1,c2,c3,fz,go_sem]
theorem Mid.put2 {w:World}{b off x0 x1 x2 x3 y0 y1 y2 y3:Nat} (h:Mid w b off 2 x0 x1 x2 x3 y0 y1 y2 y3):Mid (w.setCell ⟨b,off+2,none⟩ (.int .u64 y2)) b off 3 x0 x1 x2 x3 y0 y1 y2 y3:=by
 obtain⟨c0,c1,c2,c3,fz⟩:=h
 simp at c0 c1 c2 c3
 refine⟨?_,?_,?_,?_,fun o=>?_⟩<;>simp[c0,c1,c2,c3,fz,go_sem]
theorem Mid.put3 {w:World}{b off x0 x1 x2 x3 y0 y1 y2 y3:Nat} (h:Mid w b off 3 x0 x1 x2 x3 y0 y1 y2 y3):Mid (w.setCell ⟨b,off+3,none⟩ (.int .u64 y3)) b off 4 x0 x1 x2 x3 y0 y1 y2 y3:=by
 obtain⟨c0,c1,c2,c3,fz⟩:=h
 simp at c0 c1 c2 c3
 refine⟨?_,?_,?_,?_,fun o=>?_⟩<;>simp[c0,c1,c2,c3,fz,go_sem]
theorem Mid.drew {w:World}{b off k x0 x1 x2 x3 y0 y1 y2 y3:Nat} (h:Mid w b off k x0 x1 x2 x3 y0 y1 y2 y3):Mid w.drew b off k x0 x1 x2 x3 y0 y1 y2 y3:=⟨h.c0,h.c1,h.c2,h.c3,h.fz⟩
theorem bl_alloc {w:World}{b o:Nat} (hb:b<w.heap.size) (ob:Obj):(w.alloc ob).cell? ⟨b,o,none⟩=w.cell? ⟨b,o,none⟩:=by simp[World.cell?,Below.heap_alloc _ _ _ hb]
theorem bf_alloc {w:World}{b o:Nat} (hb:b<w.heap.size) (ob:Obj):(w.alloc ob).frozen? ⟨b,o,none⟩=w.frozen? ⟨b,o,none⟩:=by simp[World.frozen?,Below.heap_alloc _ _ _ hb]
structure Fo (b off:Nat) (w w':World):Prop where
 four:Four b off w w'
 shp:∀ cs T fr,w.heap[b]?=some (.cells cs T fr)→∃ cs',w'.heap[b]?=some (.cells cs' T fr)∧cs'.size=cs.size
theorem Fo.refl (b off:Nat) (w:World):Fo b off w w:=⟨Four.refl _ _ _,fun cs T fr h=>⟨cs,h,rfl⟩⟩
theorem Fo.drew {b off:Nat}{x w:World} (h:Fo b off x w):Fo b off x w.drew:=⟨h.four.drew,h.shp⟩
theorem Fo.setCell {b off:Nat}{x w:World} (h:Fo b off x w) (o:Nat) (ho:off≤o∧o<off+4) (v:Value):Fo b off x (w.setCell ⟨b,o,none⟩ v):=
 ⟨h.four.setCell o ho v,fun cs T fr e=>by
  obtain⟨cs',e1,e2⟩:=h.shp cs T fr e
  refine⟨cs'.setIfInBounds o v,?_,by simpa using e2⟩
  simp[World.setCell,Array.getElem?_modify,e1]⟩
theorem Fo.alloc {b off:Nat}{x w:World} (h:Fo b off x w) (hb:b<w.heap.size) (o:Obj):Fo b off x (w.alloc o):=
 ⟨h.four.alloc hb o,fun cs T fr e=>by
  obtain⟨cs',e1,e2⟩:=h.shp cs T fr e
  exact⟨cs',(Below.heap_alloc _ _ _ hb).trans e1,e2⟩⟩
structure W4At (w:World) (b off:Nat) (x:W4):Prop where
 c0:w.cell? ⟨b,off,none⟩=some (.int .u64 (x.x0:Int))
 c1:w.cell? ⟨b,off+1,none⟩=some (.int .u64 (x.x1:Int))
 c2:w.cell? ⟨b,off+2,none⟩=some (.int .u64 (x.x2:Int))
 c3:w.cell? ⟨b,off+3,none⟩=some (.int .u64 (x.x3:Int))
 fz:∀ o,w.frozen? ⟨b,o,none⟩=false
def W4.or (x y:W4):W4:=⟨x.x0 ||| y.x0,x.x1 ||| y.x1,x.x2 ||| y.x2,x.x3 ||| y.x3⟩
def W4.and (x y:W4):W4:=⟨x.x0 &&& y.x0,x.x1 &&& y.x1,x.x2 &&& y.x2,x.x3 &&& y.x3⟩
def W4.none:W4:=⟨0,0,0,0⟩
theorem W4.or_ok {x y:W4} (h:x.ok) (g:y.ok):(x.or y).ok:=⟨Nat.or_lt_two_pow (n:=64) h.l0 g.l0,Nat.or_lt_two_pow (n:=64) h.l1 g.l1,Nat.or_lt_two_pow (n:=64) h.l2 g.l2,Nat.or_lt_two_pow (n:=64) h.l3 g.l3⟩
theorem W4.and_ok {x y:W4} (h:x.ok):(x.and y).ok:=⟨Nat.lt_of_le_of_lt Nat.and_le_left h.l0,Nat.lt_of_le_of_lt Nat.and_le_left h.l1,Nat.lt_of_le_of_lt Nat.and_le_left h.l2,Nat.lt_of_le_of_lt Nat.and_le_left h.l3⟩
theorem Mid.four {w:World}{b off:Nat}{x y:W4} (h:Mid w b off 4 x.x0 x.x1 x.x2 x.x3 y.x0 y.x1 y.x2 y.x3):W4At w b off y:=by
 obtain⟨c0,c1,c2,c3,fz⟩:=h
 simp at c0 c1 c2 c3
 exact⟨c0,c1,c2,c3,fz⟩
theorem addAllS_any (w:World) (b off:Nat) (x y:W4) (hx:x.ok) (hy:y.ok) (h:W4At w b off x) :
  Calls Tryz.prog 125 #[.pointer (some ⟨b,off,none⟩),seV y.x0 y.x1 y.x2 y.x3] w fun e w'=>e=.returned (.tuple #[])∧W4At w' b off (x.or y)∧Fo b off w w':=by
 have hb:b<w.heap.size:=cell_lt h.c0
 obtain⟨x0,x1,x2,x3⟩:=x
 obtain⟨u0,u1,u2,u3⟩:=y
 obtain⟨c0,c1,c2,c3,fz⟩:=h
 have i0:=idx4_0
 have i1:=idx4_1
 have i2:=idx4_2
 have i3:=idx4_3
 obtain⟨z0,hz0⟩:∃ z,z=x0 ||| u0:=⟨_,rfl⟩
 obtain⟨z1,hz1⟩:∃ z,z=x1 ||| u1:=⟨_,rfl⟩
 obtain⟨z2,hz2⟩:∃ z,z=x2 ||| u2:=⟨_,rfl⟩
 obtain⟨z3,hz3⟩:∃ z,z=x3 ||| u3:=⟨_,rfl⟩
 have HZ:Hid (W4.or ⟨x0,x1,x2,x3⟩ ⟨u0,u1,u2,u3⟩=⟨z0,z1,z2,z3⟩):=by show _=_;rw[hz0,hz1,hz2,hz3];rfl
 have e0:bits BinOp.or IntKind.u64 (x0:Int) (u0:Int)=z0:=by rw[hz0];exact or_u64' _ _ hx.l0 hy.l0
 have e1:bits BinOp.or IntKind.u64 (x1:Int) (u1:Int)=z1:=by rw[hz1];exact or_u64' _ _ hx.l1 hy.l1
 have e2:bits BinOp.or IntKind.u64 (x2:Int) (u2:Int)=z2:=by rw[hz2];exact or_u64' _ _ hx.l2 hy.l2
 have e3:bits BinOp.or IntKind.u64 (x3:Int) (u3:Int)=z3:=by rw[hz3];exact or_u64' _ _ hx.l3 hy.l3
 simp only at c0 c1 c2 c3
 clear hz0 hz1 hz2 hz3 hx hy
 go_enter Tryz.func125,Tryz.ntmps125
 go_wp2
 go_loopw [8] (fun i wr=>∃ k:Nat,k≤4∧i=.int .i64 k∧Mid wr b off k x0 x1 x2 x3 z0 z1 z2 z3∧Fo b off w wr) (fun i _=>4-(intOf i).toNat)
 case atStart=>
  refine⟨0,by omega,rfl,⟨?_,?_,?_,?_,fun o=>?_⟩,(Fo.refl _ _ _).alloc hb _⟩
  ·rw[bl_alloc hb];simpa using c0
  ·rw[bl_alloc hb];simpa using c1
  ·rw[bl_alloc hb];simpa using c2
  ·rw[bl_alloc hb];simpa using c3
  ·rw[bf_alloc hb];exact fz o
 case round=>
  clear c0 c1 c2 c3 fz
  obtain⟨k,hk,rfl,hm,hf⟩:=hrel
  have HM:Hid (Mid wr b off k x0 x1 x2 x3 z0 z1 z2 z3):=hm
  match k,hk with
  |0,_=>
   obtain⟨c0,c1,c2,c3,fz⟩:=hm
   simp at c0 c1 c2 c3
   go_wp2
   go_region
   go_wp2
   go_roundw
   case rel=>exact⟨1,by omega,by go_num,HM.out.put0.drew,(hf.setCell _ (by omega) _).drew⟩
   case measure=>simp[intOf]
  |1,_=>
   obtain⟨c0,c1,c2,c3,fz⟩:=hm
   simp at c0 c1 c2 c3
   go_wp2
   go_region
   go_wp2
   go_roundw
   case rel=>exact⟨2,by omega,by go_num,HM.out.put1.drew,(hf.setCell _ (by omega) _).drew⟩
   case measure=>simp[intOf]
  |2,_=>
   obtain⟨c0,c1,c2,c3,fz⟩:=hm
   simp at c0 c1 c2 c3
   go_wp2
   go_region
   go_wp2
   go_roundw
   case rel=>exact⟨3,by omega,by go_num,HM.out.put2.drew,(hf.setCell _ (by omega) _).drew⟩
   case measure=>simp[intOf]
  |3,_=>
   obtain⟨c0,c1,c2,c3,fz⟩:=hm
   simp at c0 c1 c2 c3
   go_wp2
   go_region
   go_wp2
   go_roundw
   case rel=>exact⟨4,by omega,by go_num,HM.out.put3.drew,(hf.setCell _ (by omega) _).drew⟩
   case measure=>simp[intOf]
  |4,_=>
   obtain⟨c0,c1,c2,c3,fz⟩:=hm
   go_wp2
   refine bodyPost_end (results_none rfl _ _ _) rfl ?_
   refine⟨rfl,?_,hf⟩
   rw[HZ.out]
   exact Mid.four (x:=⟨x0,x1,x2,x3⟩) (y:=⟨z0,z1,z2,z3⟩) HM.out
theorem commonS_any (w:World) (x y:W4) (hx:x.ok) (hy:y.ok) :
  Calls Tryz.prog 182 #[seV x.x0 x.x1 x.x2 x.x3,seV y.x0 y.x1 y.x2 y.x3] w fun e w'=>e=.returned (seV (x.and y).x0 (x.and y).x1 (x.and y).x2 (x.and y).x3)∧Below w.heap.size w w':=by
 obtain⟨x0,x1,x2,x3⟩:=x
 obtain⟨u0,u1,u2,u3⟩:=y
 have i0:=idx4_0
 have i1:=idx4_1
 have i2:=idx4_2
 have i3:=idx4_3
 obtain⟨z0,hz0⟩:∃ z,z=x0 &&& u0:=⟨_,rfl⟩
 obtain⟨z1,hz1⟩:∃ z,z=x1 &&& u1:=⟨_,rfl⟩
 obtain⟨z2,hz2⟩:∃ z,z=x2 &&& u2:=⟨_,rfl⟩
 obtain⟨z3,hz3⟩:∃ z,z=x3 &&& u3:=⟨_,rfl⟩
 have HZ:Hid (W4.and ⟨x0,x1,x2,x3⟩ ⟨u0,u1,u2,u3⟩=⟨z0,z1,z2,z3⟩):=by show _=_;rw[hz0,hz1,hz2,hz3];rfl
 have e0:bits BinOp.and IntKind.u64 (x0:Int) (u0:Int)=z0:=by rw[hz0];exact bits_and_u64_nat _ _ hx.l0 hy.l0
 have e1:bits BinOp.and IntKind.u64 (x1:Int) (u1:Int)=z1:=by rw[hz1];exact bits_and_u64_nat _ _ hx.l1 hy.l1
 have e2:bits BinOp.and IntKind.u64 (x2:Int) (u2:Int)=z2:=by rw[hz2];exact bits_and_u64_nat _ _ hx.l2 hy.l2
 have e3:bits BinOp.and IntKind.u64 (x3:Int) (u3:Int)=z3:=by rw[hz3];exact bits_and_u64_nat _ _ hx.l3 hy.l3
 obtain⟨w1,hw1⟩:∃ w1,w1=((w.alloc (.cells #[.int .u64 (x0:Int),.int .u64 (x1:Int),.int .u64 (x2:Int),.int .u64 (x3:Int)] 150)).alloc (.cells #[.int .u64 (u0:Int),.int .u64 (u1:Int),.int .u64 (u2:Int),.int .u64 (u3:Int)] 150)).alloc (.cells #[.int .u64 0,.int .u64 0,.int .u64 0,.int .u64 0] 150):=⟨_,rfl⟩
 have hb1:Below w.heap.size w w1:=by rw[hw1];exact(((Below.refl _ _).alloc (Nat.le_refl _) _).alloc (by simp) _).alloc (by simp;omega) _
 have hm1:Mid w1 w.heap.size 0 0 x0 x1 x2 x3 z0 z1 z2 z3:=by
  have e:w1.heap[w.heap.size]?=some (.cells #[.int .u64 (x0:Int),.int .u64 (x1:Int),.int .u64 (x2:Int),.int .u64 (x3:Int)] 150):=by
   rw[hw1,Below.heap_alloc _ _ _ (by simp;omega),Below.heap_alloc _ _ _ (by simp)];exact heap_alloc_new w _
  exact⟨by simp[World.cell?,e],by simp[World.cell?,e],by simp[World.cell?,e],by simp[World.cell?,e],fun o=>by simp[World.frozen?,e]⟩
 have hr1:w1.heap[w.heap.size+2]?=some (.cells #[.int .u64 0,.int .u64 0,.int .u64 0,.int .u64 0] 150):=by
  rw[hw1]
  have:=heap_alloc_new ((w.alloc (.cells #[.int .u64 (x0:Int),.int .u64 (x1:Int),.int .u64 (x2:Int),.int .u64 (x3:Int)] 150)).alloc (.cells #[.int .u64 (u0:Int),.int .u64 (u1:Int),.int .u64 (u2:Int),.int .u64 (u3:Int)] 150)) (.cells #[.int .u64 0,.int .u64 0,.int .u64 0,.int .u64 0] 150)
  simpa using this
 have HW:Hid (w1=((w.alloc (.cells #[.int .u64 (x0:Int),.int .u64 (x1:Int),.int .u64 (x2:Int),.int .u64 (x3:Int)] 150)).alloc (.cells #[.int .u64 (u0:Int),.int .u64 (u1:Int),.int .u64 (u2:Int),.int .u64 (u3:Int)] 150)).alloc (.cells #[.int .u64 0,.int .u64 0,.int .u64 0,.int .u64 0] 150)):=hw1
 have HM1:Hid (Mid w1 w.heap.size 0 0 x0 x1 x2 x3 z0 z1 z2 z3):=hm1
 have HB1:Hid (Below w.heap.size w w1):=hb1
 have HR1:Hid (w1.heap[w.heap.size+2]?=some (.cells #[.int .u64 0,.int .u64 0,.int .u64 0,.int .u64 0] 150)):=hr1
 clear hz0 hz1 hz2 hz3 hx hy hw1 hb1 hm1 hr1
 go_enter Tryz.func182,Tryz.ntmps182
 go_wp2
 rw[←HW.out]
 go_loopw [9] (fun i wr=>∃ k:Nat,k≤4∧i=.int .i64 k∧Mid wr w.heap.size 0 k x0 x1 x2 x3 z0 z1 z2 z3∧Below w.heap.size w wr∧wr.heap[w.heap.size+2]?=some (.cells #[.int .u64 0,.int .u64 0,.int .u64 0,.int .u64 0] 150)) (fun i _=>4-(intOf i).toNat)
 case atStart=>exact⟨0,by omega,rfl,HM1.out,HB1.out,HR1.out⟩
 case round=>
  clear HW HM1 HB1 HR1
  obtain⟨k,hk,rfl,hm,hb,hr⟩:=hrel
  have HM:Hid (Mid wr w.heap.size 0 k x0 x1 x2 x3 z0 z1 z2 z3):=hm
  have HB:Hid (Below w.heap.size w wr):=hb
  have HR:Hid (wr.heap[w.heap.size+2]?=some (.cells #[.int .u64 0,.int .u64 0,.int .u64 0,.int .u64 0] 150)):=hr
  clear hb hr
  match k,hk with
  |0,_=>
   obtain⟨c0,c1,c2,c3,fz⟩:=hm
   simp at c0 c1 c2 c3
   go_wp2
   go_roundw
   case rel=>exact⟨1,by omega,by go_num,HM.out.put0,HB.out.setCell (Nat.le_refl _) _,(set_blk _ _ _ _ (by omega)).trans HR.out⟩
   case measure=>simp[intOf]
  |1,_=>
   obtain⟨c0,c1,c2,c3,fz⟩:=hm
   simp at c0 c1 c2 c3
   go_wp2
   go_roundw
   case rel=>exact⟨2,by omega,by go_num,HM.out.put1,HB.out.setCell (Nat.le_refl _) _,(set_blk _ _ _ _ (by omega)).trans HR.out⟩
   case measure=>simp[intOf]
  |2,_=>
   obtain⟨c0,c1,c2,c3,fz⟩:=hm
   simp at c0 c1 c2 c3
   go_wp2
   go_roundw
   case rel=>exact⟨3,by omega,by go_num,HM.out.put2,HB.out.setCell (Nat.le_refl _) _,(set_blk _ _ _ _ (by omega)).trans HR.out⟩
   case measure=>simp[intOf]
  |3,_=>
   obtain⟨c0,c1,c2,c3,fz⟩:=hm
   simp at c0 c1 c2 c3
   go_wp2
   go_roundw
   case rel=>exact⟨4,by omega,by go_num,HM.out.put3,HB.out.setCell (Nat.le_refl _) _,(set_blk _ _ _ _ (by omega)).trans HR.out⟩
   case measure=>simp[intOf]
  |4,_=>
   obtain⟨c0,c1,c2,c3,fz⟩:=hm
   simp at c0 c1 c2 c3
   obtain⟨y0,y1,y2,y3⟩:=box4' HR.out
   have hf2:∀ o,wr.frozen? ⟨w.heap.size+2,o,none⟩=false:=fun o=>by simp[World.frozen?,HR.out]
   go_wp2
   refine bodyPost_ret (v:=seV z0 z1 z2 z3) ?_ rfl ⟨?_,?_⟩
   ·simp[results,Tryz.results182,go_sem,y0,y1,y2,y3]
   ·rw[HZ.out]
   ·have:=HB.out
    exact((by(repeat first|(with_reducible refine Below.setCell ?_ (by first|exact Nat.le_refl _|(simp;done)|(simp;omega)) _)|(with_reducible refine Below.alloc ?_ (by first|omega|(simp;done)|(simp;omega)) _)|(with_reducible refine Below.drew ?_));exact this))
theorem kt_4:Tryz.prog.keyTypeAt 3 148=true:=by kernel_rfl
def W4.isE (x:W4):Bool:=decide (x=⟨0,0,0,0⟩)
theorem eql4 (w:World) (x:W4) (hx:x.ok):(Op.equalIn 9999 148 (.agg #[.int .u64 (x.x0:Int),.int .u64 (x.x1:Int),.int .u64 (x.x2:Int),.int .u64 (x.x3:Int)]) (.agg #[.int .u64 0,.int .u64 0,.int .u64 0,.int .u64 0])).run Tryz.prog w=.ok x.isE w:=by
 obtain⟨r,h1,h2⟩:=run_equalIn_deep 9996 3 _ kt_4 w 2 2 (.agg #[.int .u64 (x.x0:Int),.int .u64 (x.x1:Int),.int .u64 (x.x2:Int),.int .u64 (x.x3:Int)]) (.agg #[.int .u64 ((0:Nat):Int),.int .u64 ((0:Nat):Int),.int .u64 ((0:Nat):Int),.int .u64 ((0:Nat):Int)]) _ _
  (by simp[Value.formed,Tryz.underlying148,cf_4]) (by simp[Value.formed,Tryz.underlying148,cf_4]) (lits_4 0 _ _ _ _ hx.l0 hx.l1 hx.l2 hx.l3) (lits_4 0 0 0 0 0 (by omega) (by omega) (by omega) (by omega))
 have e:r=x.isE:=by
  rw[Bool.eq_iff_iff,h2]
  obtain⟨a,b,c,d⟩:=x
  simp[W4.isE]
 rw[←e]
 exact h1
theorem emptyS_any (w:World) (x:W4) (hx:x.ok) :
  Calls Tryz.prog 183 #[seV x.x0 x.x1 x.x2 x.x3] w fun e w'=>e=.returned (.bool x.isE)∧Below w.heap.size w w':=by
 have HE:=eql4 (w.alloc (.cells #[.int .u64 (x.x0:Int),.int .u64 (x.x1:Int),.int .u64 (x.x2:Int),.int .u64 (x.x3:Int)] 150)) x hx
 obtain⟨r,hr⟩:∃ r,r=x.isE:=⟨_,rfl⟩
 rw[←hr] at HE ⊢
 clear hr hx
 go_enter Tryz.func183,Tryz.ntmps183
 cases r
 ·go_wp2
  go_ret
  exact⟨rfl,(Below.refl _ _).alloc (Nat.le_refl _) _⟩
 ·go_wp2
  go_ret
  exact⟨rfl,(Below.refl _ _).alloc (Nat.le_refl _) _⟩
theorem tz_core (x k idx:Nat) (w:World) (hx0:((x:Int)==0)=false)
  (key:IntKind.u64.wrap (bits BinOp.and IntKind.u64 (x:Int) (IntKind.u64.wrap (-(x:Int)))*285870213051353865) / 288230376151711744=(idx:Int))
  (hi:idx<64) (hk:k<64) (hcell:w.cell? ⟨1,idx,none⟩=some (.int .u8 k)) :
  Calls Tryz.prog 201 #[.int .u64 x] w fun e w'=>e=.returned (.int .i64 k)∧w'=w:=by
 go_enter Tryz.func201,Tryz.ntmps201
 go_wp2
 go_ret
 exact⟨rfl,rfl⟩
def TabZ (w:World):Prop:=TabAt 1 Lib.deBruijn64tab w
theorem TabZ.keep {w w':World} (h:TabZ w) (k:w'.heap[1]?=w.heap[1]?):TabZ w':=fun j hj=>by
 rw[←h j hj];simp[World.cell?,k]
theorem TabZ.lt {w:World} (h:TabZ w):1<w.heap.size:=cell_lt (h 0 (by decide))
def low (x:Nat):Nat:=Lib.ctz 64 x
theorem low_lt {x:Nat} (h0:x≠0) (hx:x<18446744073709551616):low x<64:=(Lib.lowest_bit 64 x h0 hx).2
theorem tz_any (x:Nat) (hx:x<18446744073709551616) (hx0:x≠0) (w:World) (hT:TabZ w) :
  Calls Tryz.prog 201 #[.int .u64 x] w fun e w'=>e=.returned (.int .i64 (low x:Nat))∧w'=w:=by
 obtain⟨hlow,hk⟩:=Lib.lowest_bit 64 x hx0 hx
 obtain⟨hi,htab⟩:=Lib.deBruijn64_at _ hk
 have hcell:=hT _ hi
 rw[htab] at hcell
 exact tz_core x _ _ w (by simp;omega) (tz64_key x _ hx hx0 hlow) hi hk hcell
def off1 (x:Nat):Nat:=x &&& (x-1)
theorem off1_lt {x:Nat} (h:x≠0):off1 x<x:=Nat.lt_of_le_of_lt Nat.and_le_right (by omega)
def onB (x:Nat):List Nat:=if h:x=0 then[] else low x::onB (off1 x)
termination_by x
decreasing_by exact off1_lt h
theorem onB_zero:onB 0=[]:=by rw[onB];simp
theorem onB_pos {x:Nat} (h:x≠0):onB x=low x::onB (off1 x):=by rw[onB];simp[h]
def W4.all (s:W4):List Nat:=onB s.x0++((onB s.x1).map (64+·)++((onB s.x2).map (128+·)++(onB s.x3).map (192+·)))
theorem keyed_str:Go.Maps.Keyed Tryz.prog 9:=Go.Maps.string_keyed (by kernel_rfl)
theorem keyed_u8:Go.Maps.Keyed Tryz.prog 5:=Go.Maps.int_keyed (q:=.u8) (by kernel_rfl)
theorem key_str (s:ByteArray) (hs:s.size≤maxLen):∃ l,keyOf Tryz.prog 9 (.string s)=some l:=by
 have h:Tryz.prog.underlying 9=some .string:=by kernel_rfl
 exact⟨_,by simp[keyOf,h,mapKey];exact⟨hs,rfl⟩⟩
theorem key_sg (l:List UInt8) (hl:l.length≤100000):∃ q,keyOf Tryz.prog 9 (.string (ba l))=some q:=key_str _ (by rw[ba_size];unfold maxLen;omega)
theorem key_u8 (c:UInt8):∃ l,keyOf Tryz.prog 5 (.int .u8 (c.toNat:Int))=some l:=by
 have h:Tryz.prog.underlying 5=some (.int .u8):=by kernel_rfl
 refine⟨_,Go.Maps.keyOf_int_mk h ?_⟩
 have h1:IntKind.u8.min=0:=rfl
 have h2:IntKind.u8.max=255:=rfl
 have:=c.toNat_lt
 simp[Lit.wf,h1,h2]
 omega
def sgV (l:List UInt8):Value:=.string (ba l)
def byV (c:UInt8):Value:=.int .u8 (c.toNat:Int)
theorem sgV_inj {l m:List UInt8} (h:sgV l=sgV m):l=m:=by
 simp only[sgV,Value.string.injEq] at h
 have:=congrArg (fun b:ByteArray=>b.data.toList) h
 simpa using this
theorem byV_inj {l m:UInt8} (h:byV l=byV m):l=m:=by
 simp only[byV,Value.int.injEq,true_and] at h
 exact UInt8.toNat_inj.1 (by omega)
section
variable {α:Type}{e:α→Value} (hi:∀ {a b},e a=e b→a=b)
include hi
theorem e_old {l:List α}{s:α}{i:Nat} (h:(l.map e)[i]?=some (e s)):l[i]?=some s:=by
 rw[List.getElem?_map] at h
 obtain⟨y,hy,q⟩:=Option.map_eq_some_iff.1 h
 rw[hy,hi q]
theorem e_mem {l:List α}{s:α}:e s∈l.map e↔s∈l:=
 ⟨fun h=>by obtain⟨y,hy,q⟩:=List.mem_map.1 h;rw[←hi q];exact hy,fun h=>List.mem_map_of_mem h⟩
end
theorem ofSg_any (w:World) (p mb:Nat) (v:Value) (l:List (List UInt8)) (tk:Nat) (s:List UInt8) (h:NumAt 9 1 w p mb v (l.map sgV) tk) (hl:∀ y∈l,y.length≤100000) (hs:s.length≤100000) (hn:l.length≤1048576) (hd:l.Nodup) :
  Calls Tryz.prog 139 #[.pointer (some ⟨p,0,none⟩),sgV s] w fun e w'=>e=.returned (.int .i64 ((@List.idxOf _ instBEqOfDecidableEq s (pushM l s):Nat):Int)) ∧
   ∃ v',NumAt 9 1 w' p mb v' ((pushM l s).map sgV) tk∧(∀ g,v'.ownBlock=some g→v.ownBlock=some g∨w.heap.size≤g)∧Exc (Foot p mb v) w w':=by
 have hks:∀ y∈l.map sgV,∃ q,keyOf Tryz.prog 9 y=some q:=fun y hy=>by
  obtain⟨z,hz,rfl⟩:=List.mem_map.1 hy
  exact key_sg _ (hl z hz)
 have hk:∃ q,keyOf Tryz.prog 9 (sgV s)=some q:=key_sg _ hs
 by_cases hm:s∈l
 ·obtain⟨i,hi⟩:=List.mem_iff_getElem?.1 hm
  have hi':(l.map sgV)[i]?=some (sgV s):=by rw[List.getElem?_map,hi];rfl
  refine(ofSg_old w p mb v (l.map sgV) tk (ba s) i h ?_).mono ?_
  ·rcases num_look (x:=sgV s) keyed_str Tryz.underlying304 (zi0 w) h.mp hks hk with⟨h1,_⟩|⟨j,h1,h2⟩
   ·exact absurd ((e_mem sgV_inj).2 hm) h1
   ·have e3:=idx_of_get hd (e_old sgV_inj h1)
    rw[idx_of_get hd hi] at e3
    subst e3
    exact h2
  ·rintro e w' ⟨rfl,hw⟩
   have e3:=idx_of_get hd hi
   simp only[pushM,if_pos hm,e3,true_and]
   rw[hw]
   exact⟨v,h,fun g hg=>.inl hg,Exc.refl _ _⟩
 ·have hm':sgV s ∉ l.map sgV:=fun q=>hm ((e_mem sgV_inj).1 q)
  refine(ofSg_new w p mb v (l.map sgV) tk (ba s) h (by simpa using hn) ?_ ?_).mono ?_
  ·rcases num_look (x:=sgV s) keyed_str Tryz.underlying304 (zi0 w) h.mp hks hk with⟨_,h1⟩|⟨j,h1,h2⟩
   ·exact h1
   ·exact absurd (List.mem_of_getElem? h1) hm'
  ·exact num_put keyed_str Tryz.underlying304 h.mp hks hk hm'
  ·rintro e w' ⟨rfl,g,cap,h1,h2,h3⟩
   have e3:@List.idxOf _ instBEqOfDecidableEq s (l++[s])=l.length:=idx_of_get (by have:=pushM_nodup hd s;rwa [pushM,if_neg hm] at this) (by simp)
   simp only[pushM,if_neg hm,e3,List.length_map,true_and]
   refine⟨.slice (some ⟨g,0,none⟩) ((l.map sgV).length+1) cap,?_,?_,h3⟩
   ·rw[List.map_append];exact h1
   ·intro q hq
    simp[Value.ownBlock] at hq
    subst hq
    exact h2
theorem ofBy_any (w:World) (p mb:Nat) (v:Value) (l:List UInt8) (tk:Nat) (s:UInt8) (h:NumAt 5 1 w p mb v (l.map byV) tk) (hn:l.length≤1048576) (hd:l.Nodup) :
  Calls Tryz.prog 82 #[.pointer (some ⟨p,0,none⟩),byV s] w fun e w'=>e=.returned (.int .i64 ((@List.idxOf _ instBEqOfDecidableEq s (pushM l s):Nat):Int)) ∧
   ∃ v',NumAt 5 1 w' p mb v' ((pushM l s).map byV) tk∧(∀ g,v'.ownBlock=some g→v.ownBlock=some g∨w.heap.size≤g)∧Exc (Foot p mb v) w w':=by
 have hks:∀ y∈l.map byV,∃ q,keyOf Tryz.prog 5 y=some q:=fun y hy=>by
  obtain⟨z,hz,rfl⟩:=List.mem_map.1 hy
  exact key_u8 _
 have hk:∃ q,keyOf Tryz.prog 5 (byV s)=some q:=key_u8 _
 by_cases hm:s∈l
 ·obtain⟨i,hi⟩:=List.mem_iff_getElem?.1 hm
  have hi':(l.map byV)[i]?=some (byV s):=by rw[List.getElem?_map,hi];rfl
  refine(ofBy_old w p mb v (l.map byV) tk s.toNat i h ?_).mono ?_
  ·rcases num_look (x:=byV s) keyed_u8 Tryz.underlying258 (zi0 w) h.mp hks hk with⟨h1,_⟩|⟨j,h1,h2⟩
   ·exact absurd ((e_mem byV_inj).2 hm) h1
   ·have e3:=idx_of_get hd (e_old byV_inj h1)
    rw[idx_of_get hd hi] at e3
    subst e3
    exact h2
  ·rintro e w' ⟨rfl,hw⟩
   have e3:=idx_of_get hd hi
   simp only[pushM,if_pos hm,e3,true_and]
   rw[hw]
   exact⟨v,h,fun g hg=>.inl hg,Exc.refl _ _⟩
 ·have hm':byV s ∉ l.map byV:=fun q=>hm ((e_mem byV_inj).1 q)
  refine(ofBy_new w p mb v (l.map byV) tk s.toNat h (by simpa using hn) ?_ ?_).mono ?_
  ·rcases num_look (x:=byV s) keyed_u8 Tryz.underlying258 (zi0 w) h.mp hks hk with⟨_,h1⟩|⟨j,h1,h2⟩
   ·exact h1
   ·exact absurd (List.mem_of_getElem? h1) hm'
  ·exact num_put keyed_u8 Tryz.underlying258 h.mp hks hk hm'
  ·rintro e w' ⟨rfl,g,cap,h1,h2,h3⟩
   have e3:@List.idxOf _ instBEqOfDecidableEq s (l++[s])=l.length:=idx_of_get (by have:=pushM_nodup hd s;rwa [pushM,if_neg hm] at this) (by simp)
   simp only[pushM,if_neg hm,e3,List.length_map,true_and]
   refine⟨.slice (some ⟨g,0,none⟩) ((l.map byV).length+1) cap,?_,?_,h3⟩
   ·rw[List.map_append];exact h1
   ·intro q hq
    simp[Value.ownBlock] at hq
    subst hq
    exact h2
end Go.Proofs.YtbjabpodkaokjaaGreatDoor

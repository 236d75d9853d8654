import Derived.Test.YtbjabpodkaokjaaGreatDoorJ26
import Derived.Sort.CutIn
set_option linter.unusedVariables false
set_option linter.unusedSimpArgs false
set_option maxHeartbeats 4000000
set_option maxRecDepth 100000
namespace Go.Proofs.YtbjabpodkaokjaaGreatDoor
open Go.RowKit Go.Shelf
attribute [local go_sem] Oper.semAt_some
theorem Sp.andR {n:Nat}{s:W4} (t:W4) (h:Sp n s):Sp n (t.and s):=⟨Nat.lt_of_le_of_lt Nat.and_le_right h.b,by simp[W4.and,h.z1],by simp[W4.and,h.z2],by simp[W4.and,h.z3]⟩
structure SrAt (w:World) (sb:Nat) (vf:Value) (s:Sr):Prop where
 c1:w.cell? ⟨sb,1,none⟩=some vf
 fs:FsAt 150 w (sb+1) vf s.fs
 f0:w.cell? ⟨sb,2,none⟩=some (.int .u64 (s.whole.first.x0:Int))
 f1:w.cell? ⟨sb,3,none⟩=some (.int .u64 (s.whole.first.x1:Int))
 f2:w.cell? ⟨sb,4,none⟩=some (.int .u64 (s.whole.first.x2:Int))
 f3:w.cell? ⟨sb,5,none⟩=some (.int .u64 (s.whole.first.x3:Int))
 l0:w.cell? ⟨sb,6,none⟩=some (.int .u64 (s.whole.last.x0:Int))
 l1:w.cell? ⟨sb,7,none⟩=some (.int .u64 (s.whole.last.x1:Int))
 l2:w.cell? ⟨sb,8,none⟩=some (.int .u64 (s.whole.last.x2:Int))
 l3:w.cell? ⟨sb,9,none⟩=some (.int .u64 (s.whole.last.x3:Int))
 em:w.cell? ⟨sb,10,none⟩=some (.bool s.whole.empty)
 fr:w.cell? ⟨sb,11,none⟩=some (.bool s.front)
theorem SrAt.keep {w w':World}{sb:Nat}{vf:Value}{s:Sr} (h:SrAt w sb vf s) (k:w'.heap[sb]?=w.heap[sb]?) (kf:∀ b,vf.ownBlock=some b→w'.heap[b]?=w.heap[b]?):SrAt w' sb vf s:=by
 have e:∀ o,w'.cell? ⟨sb,o,none⟩=w.cell? ⟨sb,o,none⟩:=fun o=>by simp[World.cell?,k]
 exact⟨(e _).trans h.c1,h.fs.blk kf,(e _).trans h.f0,(e _).trans h.f1,(e _).trans h.f2,(e _).trans h.f3,(e _).trans h.l0,(e _).trans h.l1,(e _).trans h.l2,(e _).trans h.l3,(e _).trans h.em,(e _).trans h.fr⟩
theorem SrAt.lt {w:World}{sb:Nat}{vf:Value}{s:Sr} (h:SrAt w sb vf s):sb<w.heap.size:=cell_lt h.c1
theorem SrAt.below {w w':World}{sb:Nat}{vf:Value}{s:Sr} (h:SrAt w sb vf s) (hb:Below w.heap.size w w'):SrAt w' sb vf s:=h.keep (hb.block _ h.lt) (fun b hb'=>hb.block b (h.fs.lt hb').2)
structure SrOk (n:Nat) (s:Sr):Prop where
 l:s.fs.length=n
 n64:n≤64
 f:∀ x∈s.fs,Sp n x
 w:Pcs n s.whole
abbrev stC (x:W4) (b:Bool):Array Value:=#[.int .u64 (x.x0:Int),.int .u64 (x.x1:Int),.int .u64 (x.x2:Int),.int .u64 (x.x3:Int),.bool b]
theorem heap_kept {W W':World}{row:Option Nat}{t:Nat}{cs:Array Value}{T:TypeId}{fr:Nat×Nat} (h:W.heap[t]?=some (.cells cs T fr)) (hg:W.grownBy W' row) (hr:∀ r,row=some r→∃ o:Obj,W.heap[r]?=some o∧o.isCells=false):W'.heap[t]?=some (.cells cs T fr):=by
 refine(hg.block t (Array.getElem?_eq_some_iff.1 h).1 (fun e=>?_)).trans h
 obtain⟨o,h1,h2⟩:=hr t e.symm
 rw[h] at h1;simp at h1;subst h1;cases h2
theorem at_next {w:World}{t:Nat}{x:W4}{b:Bool}{T:TypeId} (h:w.heap[t]?=some (.cells (stC x b) T)):W4At w t 0 x:=by
 refine⟨?_,?_,?_,?_,fun o=>?_⟩<;>simp[World.cell?,World.frozen?,h]
theorem five_ext {cs ds:Array Value} (h1:cs.size=5) (h2:ds.size=5) (h:∀ i,i<5→cs[i]?=ds[i]?):cs=ds:=by
 apply Array.ext_getElem?
 intro i
 by_cases hi:i<5
 ·exact h i hi
 ·rw[Array.getElem?_eq_none (by omega),Array.getElem?_eq_none (by omega)]
theorem put_next {w w':World}{t:Nat}{x y:W4}{b:Bool}{T:TypeId} (h:w.heap[t]?=some (.cells (stC x b) T)) (hx:W4At w' t 0 y) (hf:Fo t 0 w w'):w'.heap[t]?=some (.cells (stC y b) T):=by
 obtain⟨cs',e1,e2⟩:=hf.shp _ _ _ h
 rw[e1]
 have key:∀ i v,w'.cell? ⟨t,i,none⟩=some v→cs'[i]?=some v:=fun i v hv=>by simpa [World.cell?,e1] using hv
 have hc:cs'=stC y b:=by
  refine five_ext (by rw[e2];rfl) rfl (fun i hi=>?_)
  match i,hi with
  |0,_=>exact key 0 _ hx.c0
  |1,_=>exact key 1 _ hx.c1
  |2,_=>exact key 2 _ hx.c2
  |3,_=>exact key 3 _ hx.c3
  |4,_=>exact key 4 _ ((hf.four.cell 4 (by omega)).trans (by simp[World.cell?,h]))
 rw[hc]
theorem box5b {w:World}{t:Nat}{x:W4}{b:Bool}{T:TypeId} (h:w.heap[t]?=some (.cells (stC x b) T)):w.cell? ⟨t,0,none⟩=some (.int .u64 (x.x0:Int))∧w.cell? ⟨t,1,none⟩=some (.int .u64 (x.x1:Int))∧w.cell? ⟨t,2,none⟩=some (.int .u64 (x.x2:Int))∧w.cell? ⟨t,3,none⟩=some (.int .u64 (x.x3:Int))∧w.cell? ⟨t,4,none⟩=some (.bool b):=by
 refine⟨?_,?_,?_,?_,?_⟩<;>simp[World.cell?,h]
theorem set5_own {w:World}{q:Nat}{b0 b1 b2 b3 b4:Value} (a0 a1 a2 a3 a4:Value) {T:TypeId}{fr:Nat×Nat} (h:w.heap[q]?=some (.cells #[b0,b1,b2,b3,b4] T fr)):(((((w.setCell ⟨q,0,none⟩ a0).setCell ⟨q,1,none⟩ a1).setCell ⟨q,2,none⟩ a2).setCell ⟨q,3,none⟩ a3).setCell ⟨q,4,none⟩ a4).heap[q]?=some (.cells #[a0,a1,a2,a3,a4] T fr):=by
 rw[set_own (set_own (set_own (set_own (set_own h))))]
 simp
theorem orAll_snoc (fs:List W4) (is:List Nat) (i:Nat) (a:W4):orAll fs (is++[i]) a=(orAll fs is a).or (fs.getD i W4.none):=by simp[orAll]
theorem orAll_sp {n:Nat}{fs:List W4}{a:W4} (is:List Nat) (h:∀ x∈fs,Sp n x) (ha:Sp n a):Sp n (orAll fs is a):=by
 unfold orAll
 induction is generalizing a with
 |nil=>exact ha
 |cons i is ih=>
  simp only[List.foldl_cons]
  refine ih (ha.or ?_)
  rw[List.getD_eq_getElem?_getD]
  cases hi:fs[i]? with
  |none=>exact Sp.none n
  |some x=>exact h x (List.mem_of_getElem? hi)
structure PBs (W:World) (H sb:Nat) (x y:W4) (b:Bool):Prop where
 k0:W.heap[H]?=some (.cells #[.pointer (some ⟨sb,0,none⟩)] 142)
 k3:W.heap[H+3]?=some (.cells #[.int .u64 0,.int .u64 0,.int .u64 0,.int .u64 0,.bool false] 244)
theorem PBs.keep {W W':World}{H sb:Nat}{x y:W4}{b:Bool} (h:PBs W H sb x y b) (k:∀ j,H≤j→j<H+4→W'.heap[j]?=W.heap[j]?):PBs W' H sb x y b:=⟨(k _ (by omega) (by omega)).trans h.k0,(k _ (by omega) (by omega)).trans h.k3⟩
theorem step_in (w:World) (sb:Nat) (vf:Value) (s:Sr) (n:Nat) (q:W4) (qe:Bool) (rd:W4) (hT:TabZ w) (h1:1<sb) (h:SrAt w sb vf s) (hk:SrOk n s) (hq:q.ok) (hrd:Sp n rd) :
  CallsIn Fence.wide 8 Tryz.prog 132 #[.pointer (some ⟨sb,0,none⟩),.agg (stC q qe),rd.v] w fun e w'=>e=.returned (stepM s (stOf q qe) rd).v∧Below w.heap.size w w':=by
 have HH:Hid (SrAt w sb vf s):=h
 have HT:Hid (TabZ w):=hT
 have HK:Hid (SrOk n s):=hk
 have hrok:=hrd.ok hk.n64
 obtain⟨w1,hw1⟩:∃ w1,w1=(((w.alloc (.cells #[.pointer (some ⟨sb,0,none⟩)] 142)).alloc (.cells (stC q qe) 244)).alloc (.cells #[.int .u64 (rd.x0:Int),.int .u64 (rd.x1:Int),.int .u64 (rd.x2:Int),.int .u64 (rd.x3:Int)] 150)).alloc (.cells #[.int .u64 0,.int .u64 0,.int .u64 0,.int .u64 0,.bool false] 244):=⟨_,rfl⟩
 have hb1:Below w.heap.size w w1:=by rw[hw1];exact((((Below.refl _ w).alloc (Nat.le_refl _) _).alloc (by simp) _).alloc (by simp;omega) _).alloc (by simp;omega) _
 have hz1:w1.heap.size=w.heap.size+4:=by rw[hw1];simp
 have hp1:PBs w1 w.heap.size sb q rd qe:=by
  refine⟨by rw[hw1,Below.heap_alloc _ _ _ (by simp;omega)];exact al0 w _ _ _,?_⟩
  rw[hw1]
  have:=heap_alloc_new (((w.alloc (.cells #[.pointer (some ⟨sb,0,none⟩)] 142)).alloc (.cells (stC q qe) 244)).alloc (.cells #[.int .u64 (rd.x0:Int),.int .u64 (rd.x1:Int),.int .u64 (rd.x2:Int),.int .u64 (rd.x3:Int)] 150)) (.cells #[.int .u64 0,.int .u64 0,.int .u64 0,.int .u64 0,.bool false] 244)
  simpa using this
 have hcm:=commonS_any w1 q rd hq hrok
 have hspA:Sp n (q.and rd):=hrd.andR q
 have HST:Hid (stepM s (stOf q qe) rd=if s.front then stOf (orAll s.fs (q.and rd).all W4.none) (!((q.and rd).and s.whole.last).isE) else stOf ((orAll s.fs (q.and rd).all W4.none).or s.whole.first) (!((q.and rd).and s.whole.last).isE||s.whole.empty)):=rfl
 obtain⟨A,hA⟩:∃ A,A=q.and rd:=⟨_,rfl⟩
 rw[←hA] at hcm hspA HST
 have HSA:Hid (Sp n A):=hspA
 have HW:Hid (w1=(((w.alloc (.cells #[.pointer (some ⟨sb,0,none⟩)] 142)).alloc (.cells (stC q qe) 244)).alloc (.cells #[.int .u64 (rd.x0:Int),.int .u64 (rd.x1:Int),.int .u64 (rd.x2:Int),.int .u64 (rd.x3:Int)] 150)).alloc (.cells #[.int .u64 0,.int .u64 0,.int .u64 0,.int .u64 0,.bool false] 244)):=hw1
 have HB1:Hid (Below w.heap.size w w1):=hb1
 have HP1:Hid (PBs w1 w.heap.size sb q rd qe):=hp1
 have hslt:=h.lt
 clear hw1 hb1 hp1 h hT hk hA hspA
 refine callsIn_of_wp_marks Tryz.func132 rfl trivial ?_ rfl
 simp only[Tryz.ntmps132,List.size_toArray,List.length_cons,List.length_nil,Nat.reduceAdd,Nat.reduceSub,Array.replicate_succ,Array.replicate_zero,List.push_toArray,List.append_toArray,List.nil_append,List.cons_append]
 simp only[W4.v]
 gi_wp2_with (refine⟨trivial,?_⟩;gi_at_call 182;rw[←HW.out];refine(callsIn_wide.2 hcm).mono ?_;rintro e w2 ⟨rfl,hb2⟩;have HB2:Hid (Below w1.heap.size w1 w2):=hb2;clear hb2)
 obtain⟨w3,hw3⟩:∃ w3,w3=w2.alloc (.cells #[.int .u64 (A.x0:Int),.int .u64 (A.x1:Int),.int .u64 (A.x2:Int),.int .u64 (A.x3:Int)] 150):=⟨_,rfl⟩
 rw[←hw3]
 have hs2:=HB2.out.size
 have hb3:Below w1.heap.size w1 w3:=by rw[hw3];exact HB2.out.alloc hs2 _
 have hz3:w3.heap.size=w2.heap.size+1:=by rw[hw3];simp
 have kR:w3.heap[w2.heap.size]?=some (.cells #[.int .u64 (A.x0:Int),.int .u64 (A.x1:Int),.int .u64 (A.x2:Int),.int .u64 (A.x3:Int)] 150):=by rw[hw3];exact heap_alloc_new w2 _
 have HB3:Hid (Below w.heap.size w w3):=HB1.out.trans (hb3.mono (by omega))
 have HP3:Hid (PBs w3 w.heap.size sb q rd qe):=HP1.out.keep (fun j h1 h2=>hb3.block j (by omega))
 have HKR:Hid (w3.heap[w2.heap.size]?=some (.cells #[.int .u64 (A.x0:Int),.int .u64 (A.x1:Int),.int .u64 (A.x2:Int),.int .u64 (A.x3:Int)] 150)):=kR
 have HS3:Hid (SrAt w3 sb vf s):=HH.out.below HB3.out
 have HALL:Hid (∀ w',Below w3.heap.size w3 w'→w'.cell? ⟨w2.heap.size,0,none⟩=some (.int .u64 (A.x0:Int))∧w'.cell? ⟨w2.heap.size,1,none⟩=some (.int .u64 (A.x1:Int))∧w'.cell? ⟨w2.heap.size,2,none⟩=some (.int .u64 (A.x2:Int))∧w'.cell? ⟨w2.heap.size,3,none⟩=some (.int .u64 (A.x3:Int))∧w'.cell? ⟨w.heap.size,0,none⟩=some (.pointer (some ⟨sb,0,none⟩))∧w'.cell? ⟨sb,6,none⟩=some (.int .u64 (s.whole.last.x0:Int))∧w'.cell? ⟨sb,7,none⟩=some (.int .u64 (s.whole.last.x1:Int))∧w'.cell? ⟨sb,8,none⟩=some (.int .u64 (s.whole.last.x2:Int))∧w'.cell? ⟨sb,9,none⟩=some (.int .u64 (s.whole.last.x3:Int))):=fun w' hb=>by
  have e1:=hb.block w2.heap.size (by omega)
  have e2:=hb.block w.heap.size (by omega)
  have hs:=HS3.out.below hb
  refine⟨?_,?_,?_,?_,?_,hs.l0,hs.l1,hs.l2,hs.l3⟩
  ·simp[World.cell?,e1,kR]
  ·simp[World.cell?,e1,kR]
  ·simp[World.cell?,e1,kR]
  ·simp[World.cell?,e1,kR]
  ·simp[World.cell?,e2,HP3.out.k0]
 have hAok:A.ok:=HSA.out.ok HK.out.n64
 have hlok:s.whole.last.ok:=HK.out.w.l.ok HK.out.n64
 obtain⟨Y,hY⟩:∃ Y,Y=A.and s.whole.last:=⟨_,rfl⟩
 have hYok:Y.ok:=by rw[hY];exact W4.and_ok hAok
 have hcmY:=fun w'=>commonS_any w' A s.whole.last hAok hlok
 simp only[←hY] at hcmY
 rw[←hY] at HST
 obtain⟨en,hen⟩:∃ en,en=Y.isE:=⟨_,rfl⟩
 have hemY:=fun w'=>emptyS_any w' Y hYok
 simp only[←hen] at hemY
 rw[←hen] at HST
 have HZ3:Hid (w3.heap.size=w2.heap.size+1):=hz3
 have HZ1:Hid (w1.heap.size=w.heap.size+4):=hz1
 clear hw3 hb3 hcm kR hY hen hz3 hz1
 gi_cut [8] from 14 (fun s8 wc=>∃ t,s8=.pointer (some ⟨t,0,none⟩)∧w3.heap.size≤t∧wc.heap[t]?=some (.cells #[.int .u64 0,.int .u64 0,.int .u64 0,.int .u64 0,.bool (!en)] 244)∧Below w3.heap.size w3 wc)
 case first=>
  refine wpIn_wide.2 ?_
  go_region_held3 (fun w'=>w'.cell? ⟨w2.heap.size,0,none⟩=some (.int .u64 (A.x0:Int))∧w'.cell? ⟨w2.heap.size,1,none⟩=some (.int .u64 (A.x1:Int))∧w'.cell? ⟨w2.heap.size,2,none⟩=some (.int .u64 (A.x2:Int))∧w'.cell? ⟨w2.heap.size,3,none⟩=some (.int .u64 (A.x3:Int))∧w'.cell? ⟨w.heap.size,0,none⟩=some (.pointer (some ⟨sb,0,none⟩))∧w'.cell? ⟨sb,6,none⟩=some (.int .u64 (s.whole.last.x0:Int))∧w'.cell? ⟨sb,7,none⟩=some (.int .u64 (s.whole.last.x1:Int))∧w'.cell? ⟨sb,8,none⟩=some (.int .u64 (s.whole.last.x2:Int))∧w'.cell? ⟨sb,9,none⟩=some (.int .u64 (s.whole.last.x3:Int))) (first|exact HALL.out _ ((by(repeat first|(with_reducible refine Below.setCell ?_ (by first|exact Nat.le_refl _|(show _≤_;omega)|(simp;done)|(simp;omega)) _)|(with_reducible refine Below.alloc ?_ (by first|omega|(simp;done)|(simp;omega)) _)|(with_reducible refine Below.drew ?_));exact Below.refl _ _))|exact HALL.out _ ((by(repeat first|(with_reducible refine Below.setCell ?_ (by first|exact Nat.le_refl _|(show _≤_;omega)|(simp;done)|(simp;omega)) _)|(with_reducible refine Below.alloc ?_ (by first|omega|(simp;done)|(simp;omega)) _)|(with_reducible refine Below.drew ?_));exact HB5.out))|exact HALL.out _ ((by(repeat first|(with_reducible refine Below.setCell ?_ (by first|exact Nat.le_refl _|(show _≤_;omega)|(simp;done)|(simp;omega)) _)|(with_reducible refine Below.alloc ?_ (by first|omega|(simp;done)|(simp;omega)) _)|(with_reducible refine Below.drew ?_));exact HB4.out))) (first|(go_at_call 183;refine(hemY _).mono ?_;rintro e w5 ⟨rfl,hb5⟩;have HB5:Hid (Below w3.heap.size w3 w5):=(by first|exact HB4.out.trans (hb5.mono HB4.out.size)|exact(HB4.out.alloc HB4.out.size _).trans (hb5.mono (by have:=HB4.out.size;simp;omega)));have hs5:w3.heap.size≤w5.heap.size:=HB5.out.size;(first|(have hz5:=(hb5.block w3.heap.size HL4.out).trans HZ4.out;have HZ5:Hid (w5.heap[w3.heap.size]?=some (.cells #[.int .u64 0,.int .u64 0,.int .u64 0,.int .u64 0,.bool false] 244)):=hz5;obtain⟨t0,t1,t2,t3,t4⟩:=box5 hz5;have tf:∀ o,w5.frozen? ⟨w3.heap.size,o,none⟩=false:=(fun o=>by simp[World.frozen?,HZ5.out]);clear hz5)|(have hz5:w5.heap[w4.heap.size]?=some (.cells #[.int .u64 0,.int .u64 0,.int .u64 0,.int .u64 0,.bool false] 244):=(hb5.block _ (by simp)).trans (heap_alloc_new w4 _);have HZ5:Hid (w5.heap[w4.heap.size]?=some (.cells #[.int .u64 0,.int .u64 0,.int .u64 0,.int .u64 0,.bool false] 244)):=hz5;obtain⟨t0,t1,t2,t3,t4⟩:=box5 hz5;have tf:∀ o,w5.frozen? ⟨w4.heap.size,o,none⟩=false:=(fun o=>by simp[World.frozen?,HZ5.out]);clear hz5)|skip);clear hb5)|(go_at_call 182;refine(hcmY _).mono ?_;rintro e w4 ⟨rfl,hb4⟩;have HB4:Hid (Below w3.heap.size w3 w4):=(by first|exact(Below.refl _ _).drew.trans (hb4.mono (by simp))|exact(((Below.refl _ _).alloc (Nat.le_refl _) _).drew).trans (hb4.mono (by simp)));have hs4:w3.heap.size≤w4.heap.size:=HB4.out.size;(first|(have HZ4:Hid (w4.heap[w3.heap.size]?=some (.cells #[.int .u64 0,.int .u64 0,.int .u64 0,.int .u64 0,.bool false] 244)):=(hb4.block _ (by simp)).trans (heap_alloc_new w3 _);have HL4:Hid (w3.heap.size<w4.heap.size):=(Array.getElem?_eq_some_iff.1 HZ4.out).1)|skip);clear hb4))
  ·gi_wp2
   gi_meet
   exact⟨_,rfl,hs5,heap_alloc_new w5 _,HB5.out.alloc hs5 _⟩
  ·gi_wp2
   gi_meet
   exact⟨_,rfl,hs4,set5_own _ _ _ _ _ HZ5.out,(by(repeat first|(with_reducible refine Below.setCell ?_ (by first|exact Nat.le_refl _|(show _≤_;omega)|(simp;done)|(simp;omega)) _)|(with_reducible refine Below.alloc ?_ (by first|omega|(simp;done)|(simp;omega)) _)|(with_reducible refine Below.drew ?_));exact HB5.out)⟩
  ·gi_wp2
   gi_meet
   exact⟨_,rfl,Nat.le_refl _,set5_own _ _ _ _ _ HZ5.out,(by(repeat first|(with_reducible refine Below.setCell ?_ (by first|exact Nat.le_refl _|(show _≤_;omega)|(simp;done)|(simp;omega)) _)|(with_reducible refine Below.alloc ?_ (by first|omega|(simp;done)|(simp;omega)) _)|(with_reducible refine Below.drew ?_));exact HB5.out)⟩
 case rest=>
  obtain⟨t,rfl,ht,hkt,hbt⟩:=hcut
  have HKT:Hid (wc.heap[t]?=some (.cells (stC W4.none (!en)) 244)):=hkt
  have HBT:Hid (Below w3.heap.size w3 wc):=hbt
  have HTL:Hid (t<wc.heap.size):=(Array.getElem?_eq_some_iff.1 hkt).1
  have HT3:Hid (w3.heap.size≤t):=ht
  have HSC:Hid (SrAt wc sb vf s):=HS3.out.below hbt
  have HPC:Hid (PBs wc w.heap.size sb q rd qe):=HP3.out.keep (fun j h1 h2=>hbt.block j (by have:=HZ3.out;have:=HZ1.out;omega))
  have HBC:Hid (Below w.heap.size w wc):=HB3.out.trans (hbt.mono HB3.out.size)
  have hr:=HALL.out wc hbt
  obtain⟨r0,r1,r2,r3,-⟩:=hr
  clear hcmY hemY hYok hbt hkt ht
  gi_wp2_with (refine⟨trivial,?_⟩;gi_at_call 184;refine(all_in _ A _).mono ?_;rintro e w' ⟨rfl,hw'⟩;subst hw')
  obtain⟨w6,hw6⟩:∃ w6,w6=wc.alloc (.cells #[.int .u64 (A.x0:Int),.int .u64 (A.x1:Int),.int .u64 (A.x2:Int),.int .u64 (A.x3:Int)] 150):=⟨_,rfl⟩
  have hb6:Below wc.heap.size wc w6:=by rw[hw6];exact(Below.refl _ _).alloc (Nat.le_refl _) _
  have hz6:w6.heap.size=wc.heap.size+1:=by rw[hw6];simp
  have j6:w6.heap[wc.heap.size]?=some (.cells #[.int .u64 (A.x0:Int),.int .u64 (A.x1:Int),.int .u64 (A.x2:Int),.int .u64 (A.x3:Int)] 150):=by rw[hw6];exact heap_alloc_new wc _
  rw[←hw6]
  clear hw6
  have hszc:=HBC.out.size
  have h1c:1<wc.heap.size:=by have:=HT.out.lt;omega
  have hT6:TabZ w6:=HT.out.keep ((hb6.block 1 h1c).trans (HBC.out.block 1 HT.out.lt))
  have HS6:Hid (SrAt w6 sb vf s):=HSC.out.below hb6
  have HP6:Hid (PBs w6 w.heap.size sb q rd qe):=HPC.out.keep (fun j h1 h2=>hb6.block j (by have:=HBT.out.size;have:=HZ3.out;have:=HZ1.out;omega))
  have HK6:Hid (w6.heap[t]?=some (.cells (stC W4.none (!en)) 244)):=(hb6.block t HTL.out).trans HKT.out
  have HB6:Hid (Below w.heap.size w w6):=HBC.out.trans (hb6.mono hszc)
  have hAlt:∀ i∈A.all,i<s.fs.length:=fun i hi=>by rw[HK.out.l];exact HSA.out.lt HK.out.n64 i hi
  have htH:w.heap.size+4<t:=by have:=HT3.out;have:=HZ3.out;have:=HZ1.out;omega
  have HTH:Hid (w.heap.size+4<t):=htH
  have HTL6:Hid (t<wc.heap.size):=HTL.out
  have hvl:∀ b,vf.ownBlock=some b→sb+1≤b∧b<w.heap.size:=fun b hb=>HH.out.fs.lt hb
  refine wpIn_rangeFunc_ownF (α:={x:Nat // x∈A.all}) rfl (by omega) (gf:=200) (lb:=#[.pointer (some ⟨wc.heap.size,0,none⟩)]) rfl trivial (enters_of Tryz.func200 (by kernel_rfl) rfl)
   (iterS_stops (8-1) (by omega) wc.heap.size A hAok w6 hT6 j6) (fun h k=>h.trans k) (kz_b (by omega) (by omega)) (Below.refl _ _) (fun _=>rfl)
   (fun pre W=>W.heap[t]?=some (.cells (stC (orAll s.fs (pre.map Subtype.val) W4.none) (!en)) 244)∧Exc (fun b=>b=t) w6 W)
   (fun _ _ _=>False)
   (OwnFrom.and (fun s A B row hs hg hr=>heap_kept hs hg (fun r e=>(hr r e).2)) (ownFrom_exc (Nat.le_refl _)))
   (fun _ _ _ _ _ hs _ _=>hs)
   ⟨HK6.out,Exc.refl _ _⟩
   (fun x=>{tmps:=#[.pointer (some ⟨sb,0,none⟩),.agg (stC q qe),seV rd.x0 rd.x1 rd.x2 rd.x3,.pointer (some ⟨w.heap.size,0,none⟩),.pointer (some ⟨w.heap.size+1,0,none⟩),.pointer (some ⟨w.heap.size+1+1,0,none⟩),.pointer (some ⟨w.heap.size+1+1+1,0,none⟩),.pointer (some ⟨w2.heap.size,0,none⟩),.pointer (some ⟨t,0,none⟩),.int .u8 (x.val:Int),.pointer (some ⟨w.heap.size+1,0,none⟩),.agg #[.int .u64 (q.x0:Int),.int .u64 (q.x1:Int),.int .u64 (q.x2:Int),.int .u64 (q.x3:Int)],.agg #[.int .u64 (rd.x0:Int),.int .u64 (rd.x1:Int),.int .u64 (rd.x2:Int),.int .u64 (rd.x3:Int)],seV A.x0 A.x1 A.x2 A.x3,u14,u15,u16,u17,u18,u19,u20,u21,u22,u23,.agg #[.int .u64 (A.x0:Int),.int .u64 (A.x1:Int),.int .u64 (A.x2:Int),.int .u64 (A.x3:Int)],.func (.func 200) #[] #[.pointer (some ⟨wc.heap.size,0,none⟩)],.int .u8 (x.val:Int),u27,u28,u29,u30,u31,u32,u33,u34,u35,u36,u37,u38,u39,u40,u41,u42,u43,u44,u45,u46,u47,u48,u49,u50,u51,u52,u53,u54,u55,u56,u57,u58,u59],defers:=[]}) ?assign ?body ?done ?stop
  case assign=>
   intro l x W K hK
   gi_wp2
   exact hK
  case body=>
   rintro l pre x W ⟨hkt,hE⟩ _
   obtain⟨k,hk⟩:=x
   have hlen:=hAlt k hk
   obtain⟨B,hB⟩:∃ B,B=orAll s.fs (pre.map Subtype.val) W4.none:=⟨_,rfl⟩
   rw[←hB] at hkt
   have hBn:Sp n B:=by rw[hB];exact orAll_sp _ HK.out.f (Sp.none n)
   have HORS:Hid (orAll s.fs ((pre++[(⟨k,hk⟩:{x:Nat // x∈A.all})]).map Subtype.val) W4.none=B.or s.fs[k]):=by
    show _=_
    rw[List.map_append,List.map_cons,List.map_nil,orAll_snoc,hB,List.getD_eq_getElem?_getD,List.getElem?_eq_getElem hlen];rfl
   have hfk:=(HK.out.f _ (List.getElem_mem hlen)).ok HK.out.n64
   have hcall:=addAllS_any W t 0 B s.fs[k] (hBn.ok HK.out.n64) hfk (at_next hkt)
   have hne:∀ b,b<w6.heap.size→b≠t→W.heap[b]?=w6.heap[b]?:=fun b hb hbt=>hE.block b hb hbt
   have hSW:SrAt W sb vf s:=HS6.out.keep (hne sb (by omega) (by omega)) (fun b hb=>hne b (by have:=hvl b hb;omega) (by have:=hvl b hb;omega))
   obtain⟨g,cap,rfl,hg,hgat⟩:=hSW.fs.at hlen
   have d1:=hSW.c1
   have d0:W.cell? ⟨w.heap.size,0,none⟩=some (.pointer (some ⟨sb,0,none⟩)):=by
    have:=hne w.heap.size (by omega) (by omega)
    simp[World.cell?,this,HP6.out.k0]
   obtain⟨g0,g1,g2,g3,-⟩:=hgat
   obtain⟨F,hF⟩:∃ F,F=s.fs.length:=⟨_,rfl⟩
   rw[←hF] at d1
   have hkI:(k:Int)<F:=by omega
   have hkN:k<F:=by omega
   have HFIN:Hid (∀ w2',W4At w2' t 0 (B.or s.fs[k])→Fo t 0 W w2'→KeepsOthers W w2'∧Kz wc.heap.size W w2'∧w2'.heap[t]?=some (.cells (stC (orAll s.fs ((pre++[(⟨k,hk⟩:{x:Nat // x∈A.all})]).map Subtype.val) W4.none) (!en)) 244)∧Exc (fun b=>b=t) w6 w2'):=fun w2' hx hf=>by
    have hsz:=hE.size
    refine⟨hf.others (at_next hkt).c0,⟨hf.four.size,hf.four.block 1 (by omega) (by omega),hf.four.block _ (by omega) (by have:=HTL6.out;omega)⟩,?_,hE.trans hf.exc⟩
    rw[HORS.out]
    exact put_next hkt hx hf
   clear hB hBn hfk hne hSW hE hF
   gi_wp2_with (refine⟨trivial,?_⟩;gi_at_call 125;refine(CallsIn.inRound l (callsIn_wide.2 hcall)).mono ?_;rintro e w7 ⟨rfl,hx7,hf7⟩)
   exact HFIN.out _ hx7 hf7
  case done=>
   rintro D ys W hD hys ⟨hkt,hE⟩ hK
   obtain⟨B,hB⟩:∃ B,B=orAll s.fs A.all W4.none:=⟨_,rfl⟩
   rw[hys,←hB] at hkt
   rw[←hB] at HST
   have hBn:Sp n B:=by rw[hB];exact orAll_sp _ HK.out.f (Sp.none n)
   have hszW:=hE.size
   have hne:∀ b,b<w6.heap.size→b≠t→W.heap[b]?=w6.heap[b]?:=fun b hb hbt=>hE.block b hb hbt
   have HSW:Hid (SrAt W sb vf s):=HS6.out.keep (hne sb (by omega) (by omega)) (fun b hb=>hne b (by have:=hvl b hb;omega) (by have:=hvl b hb;omega))
   have HPW:Hid (PBs W w.heap.size sb q rd qe):=HP6.out.keep (fun j h1 h2=>hne j (by have:=HTL6.out;omega) (by omega))
   have HKW:Hid (W.heap[t]?=some (.cells (stC B (!en)) 244)):=hkt
   have HBW:Hid (Below w.heap.size w W):=⟨hE.os.trans HB6.out.os,hE.tape.trans HB6.out.tape,hE.output.trans HB6.out.output,Nat.le_trans HB6.out.size hszW,fun b hb=>(hne b (by omega) (by omega)).trans (HB6.out.block b hb)⟩
   have HBN:Hid (Sp n B):=hBn
   have hfr:=HSW.out.fr
   have d0:W.cell? ⟨w.heap.size,0,none⟩=some (.pointer (some ⟨sb,0,none⟩)):=by simp[World.cell?,HPW.out.k0]
   obtain⟨t0,t1,t2,t3,t4⟩:=box5b hkt
   obtain⟨z0,z1,z2,z3,z4⟩:=box5 HPW.out.k3
   have zf:∀ o,W.frozen? ⟨w.heap.size+3,o,none⟩=false:=fun o=>by simp[World.frozen?,HPW.out.k3]
   clear hys hkt hE hne hB hBn hT6 j6 hb6
   cases hfe:s.front with
   |true=>
    rw[hfe] at hfr HST
    simp only[if_true] at HST
    gi_wp2
    obtain⟨Wf,hWf⟩:∃ Wf,Wf=(((((W.setCell ⟨w.heap.size+1+1+1,0,none⟩ (.int .u64 (B.x0:Int))).setCell ⟨w.heap.size+1+1+1,1,none⟩ (.int .u64 (B.x1:Int))).setCell ⟨w.heap.size+1+1+1,2,none⟩ (.int .u64 (B.x2:Int))).setCell ⟨w.heap.size+1+1+1,3,none⟩ (.int .u64 (B.x3:Int))).setCell ⟨w.heap.size+1+1+1,4,none⟩ (.bool (!en))):=⟨_,rfl⟩
    rw[←hWf]
    have hDne:D≠w.heap.size+1+1+1:=by have:=HTL6.out;omega
    have hKf:Wf.heap[D]?=some (.deferred (some [])):=by rw[hWf,set5_blk W _ _ _ _ _ _ hDne];exact hK
    have hcf:Wf.heap[w.heap.size+1+1+1]?=some (.cells (stC B (!en)) 244):=by rw[hWf];exact set5_own _ _ _ _ _ HPW.out.k3
    have hbf:Below w.heap.size w Wf:=by
     rw[hWf]
     have:=HBW.out
     exact((by(repeat first|(with_reducible refine Below.setCell ?_ (by first|exact Nat.le_refl _|(show _≤_;omega)|(simp;done)|(simp;omega)) _)|(with_reducible refine Below.alloc ?_ (by first|omega|(simp;done)|(simp;omega)) _)|(with_reducible refine Below.drew ?_));exact this))
    have hcp:(Wf.putObj D (.deferred none)).heap[w.heap.size+1+1+1]?=some (.cells (stC B (!en)) 244):=(World.putObj_heap_other (fun e=>hDne e.symm)).trans hcf
    obtain⟨q0,q1,q2,q3,q4⟩:=box5b hcp
    refine⟨by simp,.inl ⟨_,_,rfl,run_takeDeferred hKf,?_⟩⟩
    refine⟨(stOf (B) ((!en))).v,?_,by rw[HST.out],hbf.trans (belowK_b (w:=w) (Nat.le_refl _) Wf D _ _ (by have:=HTL6.out;omega) hKf rfl rfl)⟩
    simp[results,Tryz.f132,go_sem,q0,q1,q2,q3,q4,Stt.v,stOf]
   |false=>
    rw[hfe] at hfr HST
    simp only[Bool.false_eq_true,if_false] at HST
    have hf0:=HSW.out.f0
    have hf1:=HSW.out.f1
    have hf2:=HSW.out.f2
    have hf3:=HSW.out.f3
    have hwok:s.whole.first.ok:=HK.out.w.f.ok HK.out.n64
    have hcall:=addAllS_any W t 0 B s.whole.first (HBN.out.ok HK.out.n64) hwok (at_next HKW.out)
    have HKD:Hid (W.heap[D]?=some (.deferred (some []))):=hK
    have HNX:Hid (∀ W2,W4At W2 t 0 (B.or s.whole.first)→Fo t 0 W W2→W2.heap[t]?=some (.cells (stC (B.or s.whole.first) (!en)) 244)∧W2.heap[D]?=some (.deferred (some []))∧Below w.heap.size w W2∧PBs W2 w.heap.size sb q rd qe∧W2.heap[sb]?=W.heap[sb]?):=fun W2 hx hf=>by
     have hbw:=HBW.out.size
     have htl:=HTL6.out
     refine⟨put_next HKW.out hx hf,(hf.others (at_next HKW.out).c0).same D _ HKD.out rfl,HBW.out.trans (hf.below (by omega) (by omega)),HPW.out.keep (fun j h1 h2=>hf.four.block j (by omega) (by omega)),hf.four.block sb (by omega) (by omega)⟩
    obtain⟨C,hC⟩:∃ C,C=B.or s.whole.first:=⟨_,rfl⟩
    rw[←hC] at HST hcall HNX
    have hnet:¬ w.heap.size=t:=by omega
    have hnet3:¬ w.heap.size+1+1+1=t:=by omega
    have hnet3':¬ t=w.heap.size+1+1+1:=by omega
    have hnes:¬ sb=t:=by omega
    have HEM:Hid (∀ W2:World,W2.heap[sb]?=W.heap[sb]?→W2.cell? ⟨sb,10,none⟩=some (.bool s.whole.empty)):=fun W2 e=>by rw[←HSW.out.em];simp[World.cell?,e]
    clear hC hK z0 z1 z2 z3 z4 zf
    cases en
    ·simp only[Bool.not_false,Bool.not_true,Bool.true_or,Bool.false_or] at HST HNX t4
     gi_wp2_with (refine⟨trivial,?_⟩;gi_at_call 125;refine(callsIn_wide.2 hcall).mono ?_;rintro e W2 ⟨rfl,hx2,hf2'⟩;obtain⟨n1,n2,n3,n4,n5⟩:=HNX.out W2 hx2 hf2';have HN1:Hid (W2.heap[t]?=some (.cells (stC C true) 244)):=n1;have HN2:Hid (W2.heap[D]?=some (.deferred (some []))):=n2;have HN3:Hid (Below w.heap.size w W2):=n3;have HN4:Hid (PBs W2 w.heap.size sb q rd qe):=n4;have e0:W2.cell? ⟨w.heap.size,0,none⟩=some (.pointer (some ⟨sb,0,none⟩)):=(by simp[World.cell?,HN4.out.k0]);have e10:=HEM.out W2 n5;obtain⟨s0,s1,s2,s3,s4⟩:=box5b n1;have sf:∀ o,W2.frozen? ⟨t,o,none⟩=false:=(fun o=>by simp[World.frozen?,HN1.out]);obtain⟨z0,z1,z2,z3,z4⟩:=box5 n4.k3;have zf:∀ o,W2.frozen? ⟨w.heap.size+3,o,none⟩=false:=(fun o=>by simp[World.frozen?,HN4.out.k3]);clear n1 n2 n3 n4 n5 hx2 hf2' t0 t1 t2 t3 t4)
     obtain⟨W3,hW3⟩:∃ W3,W3=W2.setCell ⟨t,4,none⟩ (.bool true):=⟨_,rfl⟩
     rw[←hW3]
     have hK3:W3.heap[D]?=some (.deferred (some [])):=by rw[hW3];exact(KeepsOthers.setCell W2 ⟨t,4,none⟩ (.bool true)).same D _ HN2.out rfl
     have hp3:PBs W3 w.heap.size sb q rd qe:=HN4.out.keep (fun j h1 h2=>by rw[hW3,set_blk _ _ _ _ (by omega)])
     have hb3:Below w.heap.size w W3:=by rw[hW3];exact HN3.out.setCell (p:=⟨t,4,none⟩) (show w.heap.size≤t by omega) _
     obtain⟨Wf,hWf⟩:∃ Wf,Wf=(((((W3.setCell ⟨w.heap.size+1+1+1,0,none⟩ (.int .u64 (C.x0:Int))).setCell ⟨w.heap.size+1+1+1,1,none⟩ (.int .u64 (C.x1:Int))).setCell ⟨w.heap.size+1+1+1,2,none⟩ (.int .u64 (C.x2:Int))).setCell ⟨w.heap.size+1+1+1,3,none⟩ (.int .u64 (C.x3:Int))).setCell ⟨w.heap.size+1+1+1,4,none⟩ (.bool (true))):=⟨_,rfl⟩
     rw[←hWf]
     have hDne:D≠w.heap.size+1+1+1:=by have:=HTL6.out;omega
     have hKf:Wf.heap[D]?=some (.deferred (some [])):=by rw[hWf,set5_blk W3 _ _ _ _ _ _ hDne];exact hK3
     have hcf:Wf.heap[w.heap.size+1+1+1]?=some (.cells (stC C (true)) 244):=by rw[hWf];exact set5_own _ _ _ _ _ hp3.k3
     have hbf:Below w.heap.size w Wf:=by
      rw[hWf]
      have:=hb3
      exact((by(repeat first|(with_reducible refine Below.setCell ?_ (by first|exact Nat.le_refl _|(show _≤_;omega)|(simp;done)|(simp;omega)) _)|(with_reducible refine Below.alloc ?_ (by first|omega|(simp;done)|(simp;omega)) _)|(with_reducible refine Below.drew ?_));exact this))
     have hcp:(Wf.putObj D (.deferred none)).heap[w.heap.size+1+1+1]?=some (.cells (stC C (true)) 244):=(World.putObj_heap_other (fun e=>hDne e.symm)).trans hcf
     obtain⟨q0,q1,q2,q3,q4⟩:=box5b hcp
     refine⟨by simp,.inl ⟨_,_,rfl,run_takeDeferred hKf,?_⟩⟩
     refine⟨(stOf (C) ((true))).v,?_,by rw[HST.out],hbf.trans (belowK_b (w:=w) (Nat.le_refl _) Wf D _ _ (by have:=HTL6.out;omega) hKf rfl rfl)⟩
     simp[results,Tryz.f132,go_sem,q0,q1,q2,q3,q4,Stt.v,stOf]
    ·simp only[Bool.not_false,Bool.not_true,Bool.true_or,Bool.false_or] at HST HNX t4
     gi_wp2_with (refine⟨trivial,?_⟩;gi_at_call 125;refine(callsIn_wide.2 hcall).mono ?_;rintro e W2 ⟨rfl,hx2,hf2'⟩;obtain⟨n1,n2,n3,n4,n5⟩:=HNX.out W2 hx2 hf2';have HN1:Hid (W2.heap[t]?=some (.cells (stC C false) 244)):=n1;have HN2:Hid (W2.heap[D]?=some (.deferred (some []))):=n2;have HN3:Hid (Below w.heap.size w W2):=n3;have HN4:Hid (PBs W2 w.heap.size sb q rd qe):=n4;have e0:W2.cell? ⟨w.heap.size,0,none⟩=some (.pointer (some ⟨sb,0,none⟩)):=(by simp[World.cell?,HN4.out.k0]);have e10:=HEM.out W2 n5;obtain⟨s0,s1,s2,s3,s4⟩:=box5b n1;have sf:∀ o,W2.frozen? ⟨t,o,none⟩=false:=(fun o=>by simp[World.frozen?,HN1.out]);obtain⟨z0,z1,z2,z3,z4⟩:=box5 n4.k3;have zf:∀ o,W2.frozen? ⟨w.heap.size+3,o,none⟩=false:=(fun o=>by simp[World.frozen?,HN4.out.k3]);clear n1 n2 n3 n4 n5 hx2 hf2' t0 t1 t2 t3 t4)
     obtain⟨W3,hW3⟩:∃ W3,W3=W2.setCell ⟨t,4,none⟩ (.bool s.whole.empty):=⟨_,rfl⟩
     rw[←hW3]
     have hK3:W3.heap[D]?=some (.deferred (some [])):=by rw[hW3];exact(KeepsOthers.setCell W2 ⟨t,4,none⟩ (.bool s.whole.empty)).same D _ HN2.out rfl
     have hp3:PBs W3 w.heap.size sb q rd qe:=HN4.out.keep (fun j h1 h2=>by rw[hW3,set_blk _ _ _ _ (by omega)])
     have hb3:Below w.heap.size w W3:=by rw[hW3];exact HN3.out.setCell (p:=⟨t,4,none⟩) (show w.heap.size≤t by omega) _
     obtain⟨Wf,hWf⟩:∃ Wf,Wf=(((((W3.setCell ⟨w.heap.size+1+1+1,0,none⟩ (.int .u64 (C.x0:Int))).setCell ⟨w.heap.size+1+1+1,1,none⟩ (.int .u64 (C.x1:Int))).setCell ⟨w.heap.size+1+1+1,2,none⟩ (.int .u64 (C.x2:Int))).setCell ⟨w.heap.size+1+1+1,3,none⟩ (.int .u64 (C.x3:Int))).setCell ⟨w.heap.size+1+1+1,4,none⟩ (.bool (s.whole.empty))):=⟨_,rfl⟩
     rw[←hWf]
     have hDne:D≠w.heap.size+1+1+1:=by have:=HTL6.out;omega
     have hKf:Wf.heap[D]?=some (.deferred (some [])):=by rw[hWf,set5_blk W3 _ _ _ _ _ _ hDne];exact hK3
     have hcf:Wf.heap[w.heap.size+1+1+1]?=some (.cells (stC C (s.whole.empty)) 244):=by rw[hWf];exact set5_own _ _ _ _ _ hp3.k3
     have hbf:Below w.heap.size w Wf:=by
      rw[hWf]
      have:=hb3
      exact((by(repeat first|(with_reducible refine Below.setCell ?_ (by first|exact Nat.le_refl _|(show _≤_;omega)|(simp;done)|(simp;omega)) _)|(with_reducible refine Below.alloc ?_ (by first|omega|(simp;done)|(simp;omega)) _)|(with_reducible refine Below.drew ?_));exact this))
     have hcp:(Wf.putObj D (.deferred none)).heap[w.heap.size+1+1+1]?=some (.cells (stC C (s.whole.empty)) 244):=(World.putObj_heap_other (fun e=>hDne e.symm)).trans hcf
     obtain⟨q0,q1,q2,q3,q4⟩:=box5b hcp
     refine⟨by simp,.inl ⟨_,_,rfl,run_takeDeferred hKf,?_⟩⟩
     refine⟨(stOf (C) ((s.whole.empty))).v,?_,by rw[HST.out],hbf.trans (belowK_b (w:=w) (Nat.le_refl _) Wf D _ _ (by have:=HTL6.out;omega) hKf rfl rfl)⟩
     simp[results,Tryz.f132,go_sem,q0,q1,q2,q3,q4,Stt.v,stOf]
  case stop=>
   rintro D c pre W _ _ h _
   exact h.elim
theorem step_any (w:World) (sb:Nat) (vf:Value) (s:Sr) (n:Nat) (q:W4) (qe:Bool) (rd:W4) (hT:TabZ w) (h1:1<sb) (h:SrAt w sb vf s) (hk:SrOk n s) (hq:q.ok) (hrd:Sp n rd) :
  Calls Tryz.prog 132 #[.pointer (some ⟨sb,0,none⟩),.agg (stC q qe),rd.v] w fun e w'=>e=.returned (stepM s (stOf q qe) rd).v∧Below w.heap.size w w':=callsIn_wide.1 (step_in w sb vf s n q qe rd hT h1 h hk hq hrd)
end Go.Proofs.YtbjabpodkaokjaaGreatDoor

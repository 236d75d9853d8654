import Derived.Test.YtbjabpodkaokjaaGreatDoorS05
import Derived.Test.YtbjabpodkaokjaaGreatDoorS02
import Derived.Test.YtbjabpodkaokjaaGreatDoorJ34
import Derived.Test.YtbjabpodkaokjaaGreatDoorS03
import Derived.Lib.ConvBytes
set_option linter.unusedVariables false
set_option linter.unusedSimpArgs false
set_option maxHeartbeats 4000000
set_option maxRecDepth 100000
namespace Go.Proofs.YtbjabpodkaokjaaGreatDoor
open Go.RowKit
theorem grown_two(B:Nat)(w:World)(hB:B≤w.heap.size)(D:Nat)(hD:D≤9)(hIH:GrC D)(b o c:Nat)(z:Int)(l1:List Int)(k l m:Nat)(hp:Gp z k l m)(hk:k=3∨k=4)(hl:l≤2)(hm:m≤2)(h:Raw B w(.slice(some⟨b,o,none⟩)(l1.length+1)c)(z::l1)) :
  Calls Tryz.prog 27 #[.slice(some⟨b,o,none⟩)(l1.length+1)c,.int .i64((D:Int)+1)] w fun e w'=>GrRes B w w'(D+1)e:=by
 have HIH:Hid _:=hIH
 clear hIH
 have C1:Hid _:=hp.c1
 have C2:Hid _:=hp.c2
 have C3:Hid _:=hp.c3
 obtain⟨hc,hcc,hr,hr1⟩:=h.tail
 have HR:Hid _:=hr
 have HR1:Hid _:=hr1
 have hn:=h.n
 obtain⟨n,hnn⟩:∃ n,n=l1.length:=⟨_,rfl⟩
 have HN:Hid(n=l1.length):=hnn
 simp only [List.length_cons] at hn
 rw [←hnn] at hn hcc ⊢
 unfold maxLen at hn
 have h0:¬ ((n:Int)+1=0):=by omega
 clear hnn hp hr hr1 h
 go_enter Tryz.func27,Tryz.ntmps27
 go_upto_region 3 with(fail)
 go_cut [6] from 12 to 27(fun u6 wc=>u6=.pointer(some⟨w.heap.size,0,none⟩)∧wc.heap[w.heap.size]?=some(trB k l m none none)∧Below w.heap.size w wc)
 case first=>
  go_region_held3(fun w'=>w'.cell?⟨b,o,none⟩=some(.int .i64 z))(go_keep)(first|(have:=hm2;go_at_call 21;refine(C3.out _).mono ?_;rintro e w5⟨rfl,hw5⟩;obtain rfl:=hw5.symm)|(have:=hm1;go_at_call 21;refine(C2.out _).mono ?_;rintro e w5⟨rfl,hw5⟩;have hm2:True:=trivial;obtain rfl:=hw5.symm)|(go_at_call 21;refine(C1.out _).mono ?_;rintro e w5⟨rfl,hw5⟩;have hm1:True:=trivial;obtain rfl:=hw5.symm))
  all_goals
   go_wp2
   go_meet
   exact⟨rfl,heap_alloc_new w _,((Below.refl _ _).alloc(Nat.le_refl _)_).drew⟩
 case rest=>
 obtain⟨rfl,hq,hb⟩:=hcut
 obtain⟨p0,p1,p2,p3,p4⟩:=box5 hq
 have HQ:Hid _:=hq
 have HB:Hid _:=hb
 clear hq hb C1 C2 C3
 go_upto_region 4 with(fail)
 go_cut [0] from 28 to 29(fun u0 wd=>wd=wc∧Raw B wc u0 l1)
 case first=>
  by_cases hc3:c=1
  ·subst hc3
   go_wp2
   go_meet
   exact⟨rfl,(HR1.out(by trivial)).below HB.out⟩
  ·go_wp2
   go_meet
   have:=HR.out.below HB.out
   rw [←HN.out] at this
   exact⟨rfl,this⟩
 case rest=>
 obtain⟨rfl,hraw⟩:=hcut
 have HRW:Hid _:=hraw
 have HWB:Hid(B≤w.heap.size):=hB
 clear hraw hB
 have hd0:((D:Int)+1==0)=false:=by simp;omega
 have HLQ:Hid(w.heap.size<wc.heap.size):=some_lt HQ.out
 rcases hk with rfl|rfl
 all_goals
  go_upto_region 9 with(go_at_call 27;refine(HIH.out B _ _ _(Nat.le_trans HWB.out HB.out.size)HRW.out).mono ?_;rintro e w5⟨px,v5,tx5,l5,rfl,ht5,ho5,hr5,hb5⟩;have HLX:Hid(wc.heap.size≤w5.heap.size):=hb5.size;have HO5:Hid _:=ho5;have HB5:Hid(Below w.heap.size w w5):=HB.out.trans(hb5.mono HB.out.size);have HQ5:Hid _:=(hb5.block _ HLQ.out).trans HQ.out;obtain⟨y0,y1,y2,y3,y4⟩:=box5 HQ5.out;have f3:=fz_tr HQ5.out 3;have HRW2:Hid(Raw B(w5.setCell⟨w.heap.size,3,none⟩(.pointer(some⟨px,0,none⟩)))v5 l5):=hr5.set HWB.out _;have HLX2:Hid(wc.heap.size≤(w5.setCell⟨w.heap.size,3,none⟩(.pointer(some⟨px,0,none⟩))).heap.size):=Nat.le_trans hb5.size(Nat.le_of_eq(size_set' _ _ _).symm);have HTX:Hid(HTAt wc.heap.size(w5.setCell⟨w.heap.size,3,none⟩(.pointer(some⟨px,0,none⟩)))px tx5):=ht5.keep(fun b h1 h2=>set_blk _ _ _ _(by have:=HLQ.out;omega));have HQX:Hid _:=trB_set3 HQ5.out(some⟨px,0,none⟩);have HBX:Hid(Below w.heap.size w(w5.setCell⟨w.heap.size,3,none⟩(.pointer(some⟨px,0,none⟩)))):=HB5.out.setCell(Nat.le_refl _)_;have HSZ:Hid(B≤(w5.setCell⟨w.heap.size,3,none⟩(.pointer(some⟨px,0,none⟩))).heap.size):=Nat.le_trans HWB.out HBX.out.size;have hmark:True:=trivial;clear ht5 ho5 hr5 hb5)
  obtain⟨W,hW⟩:∃ W,W=w5.setCell⟨w.heap.size,3,none⟩(.pointer(some⟨px,0,none⟩)):=⟨_,rfl⟩
  rw [←hW] at HRW2 HTX HQX HBX HSZ HLX2
  simp only [←hW]
  clear hW
  obtain⟨y0,y1,y2,y3,y4⟩:=box5 HQX.out
  clear p0 p1 p2 p3 p4 f3 HQ5 HB5 HQ
  go_wp2_with(go_at_call 27;refine(HIH.out B _ _ _ HSZ.out HRW2.out).mono ?_;rintro e w6⟨py,v6,ty6,l6,rfl,ht6,ho6,hr6,hb6⟩;have HT6:Hid _:=ht6;have HO6:Hid _:=ho6;have HTX6:Hid(HTAt wc.heap.size w6 px tx5):=HTX.out.below hb6;have HB6:Hid(Below w.heap.size w w6):=HBX.out.trans(hb6.mono HBX.out.size);have HQ6:Hid _:=(hb6.block _(Nat.lt_of_lt_of_le HLQ.out HLX2.out)).trans HQX.out;obtain⟨z0,z1,z2,z3,z4⟩:=box5 HQ6.out;have f4:=fz_tr HQ6.out 4;have HRY:Hid(∀ x,Raw B(w6.setCell⟨w.heap.size,4,none⟩x)v6 l6):=fun x=>hr6.set HWB.out x;clear ht6 ho6 hr6 hb6)
  go_ret2
  have hset:=trB_set4 HQ6.out(some⟨py,0,none⟩)
  have hlq:=HLQ.out
  have hly:=HLX2.out
  first|exact⟨_,_,.bi 3 l m tx5 ty6,l6,rfl,⟨Nat.le_refl _,px,py,hset,(HTX6.out.keep(fun b h1 h2=>set_blk _ _ _ _(by omega))).mono(by omega),(HT6.out.keep(fun b h1 h2=>set_blk _ _ _ _(by omega))).mono(by omega)⟩,⟨by decide,hl,hm,HO5.out,HO6.out⟩,HRY.out _,HB6.out.setCell(Nat.le_refl _)_⟩|exact⟨_,_,.bi 4 l m tx5 ty6,l6,rfl,⟨Nat.le_refl _,px,py,hset,(HTX6.out.keep(fun b h1 h2=>set_blk _ _ _ _(by omega))).mono(by omega),(HT6.out.keep(fun b h1 h2=>set_blk _ _ _ _(by omega))).mono(by omega)⟩,⟨by decide,hl,hm,HO5.out,HO6.out⟩,HRY.out _,HB6.out.setCell(Nat.le_refl _)_⟩
theorem grown_any:∀ d,d≤9→GrC d
 |d,hd=>fun B w v l hB h=>by
  match l,h with
  |[],h=>
   obtain⟨a,c,rfl⟩:=h.r.form
   exact grown_nil B w d a c
  |z::l1,h=>
   obtain⟨b,o,c,rfl,-⟩:=h.r.nonnil(by simp)
   rw [List.length_cons] at h ⊢
   have hz:=h.b z(by simp)
   obtain⟨k,hk,c1⟩:=pk_at hz.1 hz.2(n:=8)(by omega)(by omega)(z:=8)(by omega)
   obtain⟨l,hl,c2⟩:=pk_at(wrap_rg(z.tdiv 8)).1(wrap_rg _).2(n:=3)(by omega)(by omega)(z:=3)(by omega)
   obtain⟨m,hm,c3⟩:=pk_at(wrap_rg(z.tdiv 24)).1(wrap_rg _).2(n:=3)(by omega)(by omega)(z:=3)(by omega)
   have hp:Gp z k l m:=⟨c1,c2,c3⟩
   by_cases hk2:k≤2
   ·exact grown_leaf B w hB d b o c z l1 k l m hp(by omega)(by omega)(by omega)h
   ·match d,hd with
    |0,_=>
     obtain⟨k',hk',c4⟩:=pk_at(c:=(k:Int))(by omega)(by omega)(n:=3)(by omega)(by omega)(z:=3)(by omega)
     exact grown_cutoff B w hB k' b o c z l1 k l m hp(by omega)(by omega)c4(by omega)(by omega)h
    |D+1,hd=>
     have ih:=grown_any D(by omega)
     rw [show((D+1:Nat):Int)=(D:Int)+1 by omega]
     by_cases hk5:5≤k
     ·exact grown_one B w hB D(by omega)ih b o c z l1 k l m hp(by omega)(by omega)(by omega)h
     ·exact grown_two B w hB D(by omega)ih b o c z l1 k l m hp(by omega)(by omega)(by omega)h
abbrev svV(p:Nat)(f b:Bool):Value:=.agg #[.pointer(some⟨p,0,none⟩),.bool f,.bool b]
theorem pk4 {c:Int} (h1:-9223372036854775808≤c)(h2:c≤9223372036854775807):∃ k,(k=0∨k=1∨k=2∨k=3)∧∀ w,Calls Tryz.prog 21 #[.int .i64 c,.int .i64 4] w fun e w'=>e=.returned(.int .i64(k:Nat))∧w'=w:=by
 obtain⟨k,hk,hc⟩:=pk_at h1 h2(n:=4)(by omega)(by omega)(z:=4)(by omega)
 exact⟨k,by omega,hc⟩
theorem set3_blk(w:World)(q:Nat)(a0 a1 a2:Value) {k:Nat} (h:k≠q):(((w.setCell⟨q,0,none⟩a0).setCell⟨q,1,none⟩a1).setCell⟨q,2,none⟩a2).heap[k]?=w.heap[k]?:=by
 rw [set_blk _ _ _ _ h,set_blk _ _ _ _ h,set_blk _ _ _ _ h]
theorem sought_any(w:World)(v:Value)(l:List Int)(ends:Int)(h:Raw w.heap.size w v l)(h1:-9223372036854775808≤ends)(h2:ends≤9223372036854775807) :
  Calls Tryz.prog 30 #[v,.int .i64 ends] w fun e w'=>∃ p f b t,e=.returned(svV p f b)∧HTAt w.heap.size w' p t∧HTOk 4 t∧Below w.heap.size w w':=by
 obtain⟨k,hk,hp⟩:=pk4 h1 h2
 have HP:Hid _:=hp
 have HG:Hid(∀ x,Calls Tryz.prog 27 #[v,.int .i64 4](w.alloc x)fun e w'=>GrRes w.heap.size(w.alloc x)w' 4 e):=fun x=>grown_any 4(by omega)_ _ _ _(by simp)(h.below((Below.refl _ _).alloc(Nat.le_refl _)_))
 clear hp h
 go_enter Tryz.func30,Tryz.ntmps30
 go_upto_region 2 with(go_at_call 27;refine(HG.out _).mono ?_;rintro e w3⟨p,v3,t,l3,rfl,ht,ho,hr,hb⟩;have HT:Hid _:=ht;have HO:Hid _:=ho;have HB:Hid _:=hb;clear ht ho hr hb)
 have hq:w3.heap[w.heap.size]?=some(.cells #[.pointer none,.bool false,.bool false] 62):=(HB.out.block _(by simp)).trans(heap_alloc_new w _)
 obtain⟨q0,q1,q2⟩:=box3 hq
 have f0:∀ o,w3.frozen?⟨w.heap.size,o,none⟩=false:=fun o=>by simp [World.frozen?,hq]
 have fa:=f0 0
 have fb:=f0 1
 have fc:=f0 2
 have HQ:Hid _:=hq
 clear hq f0
 rcases hk with rfl|rfl|rfl|rfl
 ·go_wp2_with(go_at_call 21;refine(HP.out _).mono ?_;rintro e w5⟨rfl,hw5⟩;obtain rfl:=hw5.symm)
  exact bodyPost_ret(v:=svV p false false)(by simp [results,Tryz.results30,go_sem,q0,q1,q2,fa,fb,fc])rfl⟨p,false,false,t,rfl,(HT.out.keep(fun c h1 h2=>set3_blk _ _ _ _ _(by simp at h1;omega))).mono(by simp),HO.out,(((((Below.refl _ _).alloc(Nat.le_refl _)_).trans(HB.out.mono(by simp))).setCell(Nat.le_refl _)_).setCell(Nat.le_refl _)_).setCell(Nat.le_refl _)_⟩
 ·go_wp2_with(go_at_call 21;refine(HP.out _).mono ?_;rintro e w5⟨rfl,hw5⟩;obtain rfl:=hw5.symm)
  exact bodyPost_ret(v:=svV p true false)(by simp [results,Tryz.results30,go_sem,q0,q1,q2,fa,fb,fc])rfl⟨p,true,false,t,rfl,(HT.out.keep(fun c h1 h2=>set3_blk _ _ _ _ _(by simp at h1;omega))).mono(by simp),HO.out,(((((Below.refl _ _).alloc(Nat.le_refl _)_).trans(HB.out.mono(by simp))).setCell(Nat.le_refl _)_).setCell(Nat.le_refl _)_).setCell(Nat.le_refl _)_⟩
 ·go_wp2_with(go_at_call 21;refine(HP.out _).mono ?_;rintro e w5⟨rfl,hw5⟩;obtain rfl:=hw5.symm)
  exact bodyPost_ret(v:=svV p false true)(by simp [results,Tryz.results30,go_sem,q0,q1,q2,fa,fb,fc])rfl⟨p,false,true,t,rfl,(HT.out.keep(fun c h1 h2=>set3_blk _ _ _ _ _(by simp at h1;omega))).mono(by simp),HO.out,(((((Below.refl _ _).alloc(Nat.le_refl _)_).trans(HB.out.mono(by simp))).setCell(Nat.le_refl _)_).setCell(Nat.le_refl _)_).setCell(Nat.le_refl _)_⟩
 ·go_wp2_with(go_at_call 21;refine(HP.out _).mono ?_;rintro e w5⟨rfl,hw5⟩;obtain rfl:=hw5.symm)
  exact bodyPost_ret(v:=svV p true true)(by simp [results,Tryz.results30,go_sem,q0,q1,q2,fa,fb,fc])rfl⟨p,true,true,t,rfl,(HT.out.keep(fun c h1 h2=>set3_blk _ _ _ _ _(by simp at h1;omega))).mono(by simp),HO.out,(((((Below.refl _ _).alloc(Nat.le_refl _)_).trans(HB.out.mono(by simp))).setCell(Nat.le_refl _)_).setCell(Nat.le_refl _)_).setCell(Nat.le_refl _)_⟩
theorem stext_one(w:World)(p k l m:Nat)(px py:Option Addr)(f b:Bool)(X:ByteArray)(h:w.heap[p]?=some(trB k l m px py))(hk:k≠3)(hx:TxC w p X)(sX:X.size≤200) :
  Calls Tryz.prog 31 #[svV p f b] w fun e w'=>e=.returned(.string(ba(begP f)++X++ba(endP b)))∧Below w.heap.size w w':=by
 have HP:Hid(∀ w',Below w.heap.size w w'→w'.heap[p]?=some(trB k l m px py)):=fun w' hb=>by rw [hb.block p(some_lt h)];exact h
 have hk3:((k:Int)==3)=false:=by simp;omega
 have a1:¬ 9223372036854775807<1+X.size:=by omega
 have a2:¬ 9223372036854775807<1+X.size+1:=by omega
 have a3:¬ 9223372036854775807<X.size+1:=by omega
 obtain⟨w1,hw1⟩:∃ w1,w1=w.alloc(.cells #[.pointer(some⟨p,0,none⟩),.bool f,.bool b] 62):=⟨_,rfl⟩
 have HW1:Hid _:=hw1
 have HB1:Hid(Below w.heap.size w w1):=by rw [hw1];exact(Below.refl _ _).alloc(Nat.le_refl _)_
 have HX1:Hid(∀ w',Below w1.heap.size w1 w'→w'.heap[w.heap.size]?=some(.cells #[.pointer(some⟨p,0,none⟩),.bool f,.bool b] 62)):=fun w' hb=>by rw [hb.block _(by rw [hw1];simp),hw1];exact heap_alloc_new w _
 have hs1:=HX1.out w1(Below.refl _ _)
 obtain⟨s0,s1,s2⟩:=box3 hs1
 clear hw1 hs1 h
 go_enter Tryz.func31,Tryz.ntmps31
 go_upto_region 1 with(fail)
 rw [←HW1.out]
 cases f<;>cases b
 all_goals
  go_wp2_with(go_at_call 28;refine(hx _ HB1.out).mono ?_;rintro e w3⟨rfl,l3⟩;have HB3:Hid(Below w.heap.size w w3):=HB1.out.trans(l3.mono HB1.out.size);obtain⟨y0,y1,y2,y3,y4⟩:=box5(HP.out w3 HB3.out);obtain⟨z0,z1,z2⟩:=box3(HX1.out w3 l3);clear l3)
  go_ret
  refine⟨?_,HB3.out⟩
  simp [begP,endP]
  try(apply ByteArray.ext;simp [ByteArray.data_append])
theorem stext_cat(w:World)(p l m px py:Nat)(f b:Bool)(X Y:ByteArray)(h:w.heap[p]?=some(trB 3 l m(some⟨px,0,none⟩)(some⟨py,0,none⟩)))(ht:TxC w p(X++Y))(hx:TxC w px X)(hy:TxC w py Y)(sX:X.size≤200)(sY:Y.size≤200) :
  Calls Tryz.prog 31 #[svV p f b] w fun e w'=>e=.returned(.string(ba(begP f)++(X++Y)++ba(endP b)))∧Below w.heap.size w w':=by
 have HP:Hid(∀ w',Below w.heap.size w w'→w'.heap[p]?=some(trB 3 l m(some⟨px,0,none⟩)(some⟨py,0,none⟩))):=fun w' hb=>by rw [hb.block p(some_lt h)];exact h
 have a0:¬ 9223372036854775807<X.size+Y.size:=by omega
 have hsz:(X++Y).size=X.size+Y.size:=ByteArray.size_append
 obtain⟨Z,hZ⟩:∃ Z,Z=X++Y:=⟨_,rfl⟩
 have HZ:Hid(X++Y=Z):=hZ.symm
 rw [←hZ] at hsz ht ⊢
 have a1:¬ 9223372036854775807<1+Z.size:=by omega
 have a2:¬ 9223372036854775807<1+Z.size+1:=by omega
 have a3:¬ 9223372036854775807<Z.size+1:=by omega
 clear hZ hsz
 obtain⟨w1,hw1⟩:∃ w1,w1=w.alloc(.cells #[.pointer(some⟨p,0,none⟩),.bool f,.bool b] 62):=⟨_,rfl⟩
 have HW1:Hid _:=hw1
 have HB1:Hid(Below w.heap.size w w1):=by rw [hw1];exact(Below.refl _ _).alloc(Nat.le_refl _)_
 have HX1:Hid(∀ w',Below w1.heap.size w1 w'→w'.heap[w.heap.size]?=some(.cells #[.pointer(some⟨p,0,none⟩),.bool f,.bool b] 62)):=fun w' hb=>by rw [hb.block _(by rw [hw1];simp),hw1];exact heap_alloc_new w _
 have hs1:=HX1.out w1(Below.refl _ _)
 obtain⟨s0,s1,s2⟩:=box3 hs1
 clear hw1 hs1 h
 go_enter Tryz.func31,Tryz.ntmps31
 go_upto_region 1 with(fail)
 rw [←HW1.out]
 go_upto_region 3 with(go_at_call 28;refine(ht _ HB1.out).mono ?_;rintro e w3⟨rfl,l3⟩;have HB3:Hid(Below w.heap.size w w3):=HB1.out.trans(l3.mono HB1.out.size);have HL3:Hid(Below w1.heap.size w1 w3):=l3;obtain⟨y0,y1,y2,y3,y4⟩:=box5(HP.out w3 HB3.out);obtain⟨z0,z1,z2⟩:=box3(HX1.out w3 l3);clear l3)
 go_cut [3] from 13 to 25(fun u3 wc=>u3=.string Z∧Below w1.heap.size w1 wc)
 case first=>
  go_region_held3(fun w'=>w'.cell?⟨p,3,none⟩=some(.pointer(some⟨px,0,none⟩))∧w'.cell?⟨p,4,none⟩=some(.pointer(some⟨py,0,none⟩))∧w'.cell?⟨w.heap.size,0,none⟩=some(.pointer(some⟨p,0,none⟩)))(go_keep)
   (first|(have:=hmark;go_at_call 28;refine(hy _ HB4.out).mono ?_;rintro e w5⟨rfl,l5⟩;have HL5:Hid(Below w1.heap.size w1 w5):=HL4.out.trans(l5.mono HL4.out.size);have HB5:Hid(Below w.heap.size w w5):=HB1.out.trans(HL5.out.mono HB1.out.size);obtain⟨-,-,-,v3,v4⟩:=box5(HP.out w5 HB5.out);obtain⟨v0,-,-⟩:=box3(HX1.out w5 HL5.out))|(go_at_call 28;refine(hx _ HB3.out.drew).mono ?_;rintro e w4⟨rfl,l4⟩;have hmark:True:=trivial;have HL4:Hid(Below w1.heap.size w1 w4):=HL3.out.drew.trans(l4.mono HL3.out.size);have HB4:Hid(Below w.heap.size w w4):=HB1.out.trans(HL4.out.mono HB1.out.size);obtain⟨-,-,-,x3,x4⟩:=box5(HP.out w4 HB4.out);obtain⟨x0,-,-⟩:=box3(HX1.out w4 HL4.out);clear l4))
  all_goals
   go_wp2
   go_meet
   exact⟨by rw [HZ.out],HL5.out⟩
 case rest=>
 obtain⟨rfl,hlc⟩:=hcut
 obtain⟨r0,r1,r2⟩:=box3(HX1.out wc hlc)
 have HBC:Hid(Below w.heap.size w wc):=HB1.out.trans(hlc.mono HB1.out.size)
 clear hlc
 cases f<;>cases b
 all_goals
  go_wp2
  go_ret
  refine⟨?_,HBC.out⟩
  simp [begP,endP]
  try(apply ByteArray.ext;simp [ByteArray.data_append])
theorem stext_any {t:HT} (hok:HTOk 4 t) {lo p:Nat} {w:World} (h:HTAt lo w p t)(f b:Bool) :
  Calls Tryz.prog 31 #[svV p f b] w fun e w'=>e=.returned(.string(ba(begP f++(tx(kt t)++endP b))))∧Below w.heap.size w w':=by
 have hlen:(tx(kt t)).length≤109:=(tx_len hok).1
 have hT:TxC w p(ba(tx(kt t))):=fun w' hw'=>text_any hok(by omega)(h.below hw')
 have hsz:(ba(tx(kt t))).size≤200:=by rw [ba_size];omega
 rw [show begP f++(tx(kt t)++endP b)=begP f++tx(kt t)++endP b by simp,←ba_cat,←ba_cat]
 match t,hok,h,hT,hsz,hlen with
 |.lf k l m,hok,h,hT,hsz,_=>
  simp only [HTAt] at h
  simp only [HTOk] at hok
  exact stext_one w p k l m none none f b _ h.2(by omega)hT hsz
 |.un k l m x,hok,h,hT,hsz,_=>
  simp only [HTAt] at h
  simp only [HTOk] at hok
  obtain⟨-,px,hb,hx⟩:=h
  exact stext_one w p k l m _ none f b _ hb(by omega)hT hsz
 |.bi k l m x y,hok,h,hT,hsz,hlen=>
  simp only [HTAt] at h
  simp only [HTOk] at hok
  obtain⟨-,px,py,hb,hx,hy⟩:=h
  rcases hok.1 with rfl|rfl
  ·simp only [kt,if_true,tx,List.length_append] at hlen hT ⊢
   rw [←ba_cat] at hT ⊢
   exact stext_cat w p l m px py f b _ _ hb hT(fun w' hw'=>text_any hok.2.2.2.1(by omega)(hx.below hw'))(fun w' hw'=>text_any hok.2.2.2.2(by omega)(hy.below hw'))(by rw [ba_size];omega)(by rw [ba_size];omega)
  ·exact stext_one w p 4 l m _ _ f b _ hb(by omega)hT hsz
theorem tabular_is:Tabular isTb(fun l=>cntR(ba l)):=⟨fun t ht=>by
 obtain⟨c,h⟩:=tbOk_of ht
 refine⟨c,h.fits,?_,h.cc⟩
 have hc:=h.c256
 have:=h.cls 0
 omega⟩
theorem Raw.grow {B B':Nat} {w:World} {v:Value} {l:List Int} (h:Raw B w v l)(hB:B≤B'):Raw B' w v l:=⟨h.r,h.c,h.b,h.n,fun b o n c e=>(h.o b o n c e).imp id(fun q=>Nat.lt_of_lt_of_le q hB)⟩
abbrev ptx(t:HT)(f b:Bool):List UInt8:=begP f++(tx(kt t)++endP b)
theorem ptx_len {t:HT} (h:HTOk 4 t)(f b:Bool):(ptx t f b).length≤111:=by
 have:=(tx_len h).1
 have h1:(begP f).length≤1:=by cases f<;>simp [begP]
 have h2:(endP b).length≤1:=by cases b<;>simp [endP]
 simp [szK] at this
 simp;omega
theorem ptx_comp {t:HT} (h:HTOk 4 t)(f b:Bool):(compM(ptx t f b)200=.inl(4,0)∧searchM⟨f,b,[toC(kt t)]⟩200=none)∨∃ T n k,compM(ptx t f b)200=.inr(tbOf(leastM T))∧TnFull n k T∧n≤200∧k≤256∧T.front=f∧T.back=b∧∀ u,ac T(rnT T 0 u)=true↔endsAt f(LCs [toC(kt t)])u:=by
 refine compM_ptn(readP_one(kt_ok h)f b)?_ ?_
 ·have:=ptx_len h f b;omega
 ·have:=(tx_len h).2
  simp only [Sx.nestCs,nestC_toC]
  omega
theorem cpd_no {w W:World} (hS:Sx.Tabs w)(hT:TabZ w)(hW:Below w.heap.size w W) {s:List UInt8} (hs:s.length≤300)(h:compM s 200=.inl(4,0)):Calls Tryz.prog 29 #[.string(ba s)] W fun e w'=>e=.returned(.tuple #[.pointer none,.bool true])∧Below W.heap.size W w':=by
 refine(cpd_any W(ba s)(tabs_at hS hW)(tabz_at hT hW)(by rw [ba_size];unfold maxLen;omega)).mono ?_
 rintro e w'⟨h1,h2⟩
 rw [show(ba s).data.toList=s from rfl,h] at h1
 exact⟨h1,h2⟩
theorem cpd_yes {w W:World} (hS:Sx.Tabs w)(hT:TabZ w)(hW:Below w.heap.size w W) {s:List UInt8} (hs:s.length≤300) {T:Tb} (h:compM s 200=.inr T):Calls Tryz.prog 29 #[.string(ba s)] W fun e w'=>∃ m c,e=.returned(.tuple #[.pointer(some⟨m,0,none⟩),.bool true])∧Mch w' m T c∧Below W.heap.size W w':=by
 refine(cpd_any W(ba s)(tabs_at hS hW)(tabz_at hT hW)(by rw [ba_size];unfold maxLen;omega)).mono ?_
 rintro e w'⟨h1,h2⟩
 rw [show(ba s).data.toList=s from rfl,h] at h1
 obtain⟨m,c,h3,h4,h5⟩:=h1
 exact⟨m,c,h3,h4 w'(Hi.refl _ _),h2⟩
theorem sought_at {w W:World} {v:Value} {l:List Int} {ends:Int} (h:Raw w.heap.size w v l)(hW:Below w.heap.size w W)(h1:-9223372036854775808≤ends)(h2:ends≤9223372036854775807):Calls Tryz.prog 30 #[v,.int .i64 ends] W fun e w'=>∃ p f b t,e=.returned(svV p f b)∧HTAt W.heap.size w' p t∧HTOk 4 t∧Below W.heap.size W w':=sought_any W v l ends((h.below hW).grow hW.size)h1 h2
abbrev mkV(a b c d:Int):Value:=.agg #[.int .i64 a,.int .i64 b,.int .i64 c,.int .i64 d]
end Go.Proofs.YtbjabpodkaokjaaGreatDoor

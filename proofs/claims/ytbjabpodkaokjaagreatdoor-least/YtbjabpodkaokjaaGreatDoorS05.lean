import Derived.Test.YtbjabpodkaokjaaGreatDoorS04
import Derived.Test.YtbjabpodkaokjaaGreatDoorJ21
set_option linter.unusedVariables false
set_option linter.unusedSimpArgs false
set_option maxHeartbeats 4000000
set_option maxRecDepth 100000
namespace Go.Proofs.YtbjabpodkaokjaaGreatDoor
open Go.RowKit
structure Raw (B:Nat) (w:World) (v:Value) (l:List Int):Prop where
 r:RowE eI w v l
 c:∀ a n c,v=.slice a n c→n≤c
 b:∀ z∈l,-9223372036854775808≤z∧z≤9223372036854775807
 n:l.length≤maxLen
 o:∀ b o n c,v=.slice (some ⟨b,o,none⟩) n c→l=[]∨b<B
theorem Raw.below {B:Nat}{w w':World}{v:Value}{l:List Int} (h:Raw B w v l) (hb:Below w.heap.size w w'):Raw B w' v l:=⟨h.r.below hb,h.c,h.b,h.n,h.o⟩
theorem Raw.set {B:Nat}{w:World}{v:Value}{l:List Int} (h:Raw B w v l) {q o:Nat} (hq:B≤q) (x:Value):Raw B (w.setCell ⟨q,o,none⟩ x) v l:=by
 refine⟨?_,h.c,h.b,h.n,h.o⟩
 rcases h.r with h1|⟨b,o',c,rfl,h2⟩
 ·exact .inl h1
 ·rcases h.o _ _ _ _ rfl with h3|h3
  ·subst h3;exact .inl ⟨rfl,_,_,rfl⟩
  ·refine .inr ⟨b,o',c,rfl,fun j hj=>?_⟩
   rw[←h2 j hj]
   simp only[World.cell?,set_blk w q o x (show b≠q by omega)]
def GrRes (B:Nat) (w w':World) (d:Nat) (e:Ending):Prop:=∃ p v t l,e=.returned (.tuple #[.pointer (some ⟨p,0,none⟩),v])∧HTAt w.heap.size w' p t∧HTOk d t∧Raw B w' v l∧Below w.heap.size w w'
abbrev GrC (d:Nat):Prop:=∀ B w v l,B≤w.heap.size→Raw B w v l→Calls Tryz.prog 27 #[v,.int .i64 d] w fun e w'=>GrRes B w w' d e
theorem grown_nil (B:Nat) (w:World) (d:Nat) (a:Option Addr) (c:Nat):Calls Tryz.prog 27 #[.slice a 0 c,.int .i64 d] w fun e w'=>GrRes B w w' d e:=by
 go_enter Tryz.func27,Tryz.ntmps27
 go_wp2
 go_ret2
 refine⟨_,_,.lf 0 0 0,[],rfl,?_,by cases d<;>simp[HTOk],⟨.inl ⟨rfl,_,_,rfl⟩,fun a n c e=>by injection e;omega,by simp,by simp,fun _ _ _ _ _=>.inl rfl⟩,(Below.refl _ _).alloc (Nat.le_refl _) _⟩
 simp only[HTAt]
 exact⟨Nat.le_refl _,heap_alloc_new w _⟩
theorem pk_at {c:Int} (h1:-9223372036854775808≤c) (h2:c≤9223372036854775807) {n:Nat} (hn:0<n) (hn2:n≤9) {z:Int} (hz:z=n):∃ k,k<n∧∀ w,Calls Tryz.prog 21 #[.int .i64 c,.int .i64 z] w fun e w'=>e=.returned (.int .i64 (k:Nat))∧w'=w:=by
 subst hz
 exact⟨pkN c n,pkN_lt c n hn,fun w=>kpick_any w c n h1 h2 hn (by omega)⟩
theorem wrap_rg (x:Int):-9223372036854775808≤IntKind.i64.wrap x∧IntKind.i64.wrap x≤9223372036854775807:=by rw[IntKind.wrap_i64];omega
structure Gp (z:Int) (k l m:Nat):Prop where
 c1:∀ w,Calls Tryz.prog 21 #[.int .i64 z,.int .i64 8] w fun e w'=>e=.returned (.int .i64 k)∧w'=w
 c2:∀ w,Calls Tryz.prog 21 #[.int .i64 (IntKind.i64.wrap (z.tdiv 8)),.int .i64 3] w fun e w'=>e=.returned (.int .i64 l)∧w'=w
 c3:∀ w,Calls Tryz.prog 21 #[.int .i64 (IntKind.i64.wrap (z.tdiv 24)),.int .i64 3] w fun e w'=>e=.returned (.int .i64 m)∧w'=w
theorem Raw.tail {B:Nat}{w:World}{b o c:Nat}{z:Int}{l:List Int} (h:Raw B w (.slice (some ⟨b,o,none⟩) (l.length+1) c) (z::l)):w.cell? ⟨b,o,none⟩=some (.int .i64 z)∧l.length+1≤c∧Raw B w (.slice (some ⟨b,o+1,none⟩) l.length (c-1)) l∧(c=1→Raw B w (.slice (some ⟨b,o,none⟩) 0 0) l):=by
 have hc:=h.c _ _ _ rfl
 obtain⟨b',o',c',e,hcell⟩:=h.r.nonnil (by simp)
 injection e with e1 e2 e3
 injection e1 with e1
 injection e1 with e4 e5 e6
 subst e4
 subst e5
 have hb:∀ x∈l,-9223372036854775808≤x∧x≤9223372036854775807:=fun x hx=>h.b x (by simp[hx])
 have hn:l.length≤maxLen:=by have:=h.n;simp at this;omega
 have ho:b<B:=(h.o _ _ _ _ rfl).resolve_left (by simp)
 refine⟨hcell 0 (by simp),hc,⟨.inr ⟨b,o+1,_,rfl,fun j hj=>?_⟩,fun a n c e=>by injection e;omega,hb,hn,fun b' o' n c' e=>?_⟩,fun hc1=>?_⟩
 ·have:=hcell (j+1) (by simp;omega)
  rw[show o+1+j=o+(j+1) by omega]
  simpa using this
 ·injection e with e1;injection e1 with e1;injection e1 with e1;exact .inr (e1▸ho)
 ·have:l=[]:=List.length_eq_zero_iff.1 (by omega)
  subst this
  exact⟨.inl ⟨rfl,_,_,rfl⟩,fun a n c e=>by injection e;omega,by simp,by simp,fun _ _ _ _ _=>.inl rfl⟩
theorem fz_tr {w:World}{q k l m:Nat}{x y:Option Addr} (h:w.heap[q]?=some (trB k l m x y)) (o:Nat):w.frozen? ⟨q,o,none⟩=false:=by
 simp[World.frozen?,h]
theorem trB_set0 {w:World}{q k l m:Nat}{x y:Option Addr} (h:w.heap[q]?=some (trB k l m x y)) (k':Nat):(w.setCell ⟨q,0,none⟩ (.int .i64 k')).heap[q]?=some (trB k' l m x y):=by
 rw[set_own h];rfl
theorem trB_set3 {w:World}{q k l m:Nat}{x y:Option Addr} (h:w.heap[q]?=some (trB k l m x y)) (x':Option Addr):(w.setCell ⟨q,3,none⟩ (.pointer x')).heap[q]?=some (trB k l m x' y):=by
 rw[set_own h];rfl
theorem trB_set4 {w:World}{q k l m:Nat}{x y:Option Addr} (h:w.heap[q]?=some (trB k l m x y)) (y':Option Addr):(w.setCell ⟨q,4,none⟩ (.pointer y')).heap[q]?=some (trB k l m x y'):=by
 rw[set_own h];rfl
theorem grown_leaf (B:Nat) (w:World) (hB:B≤w.heap.size) (d:Nat) (b o c:Nat) (z:Int) (l1:List Int) (k l m:Nat) (hp:Gp z k l m) (hk:k=0∨k=1∨k=2) (hl:l≤2) (hm:m≤2) (h:Raw B w (.slice (some ⟨b,o,none⟩) (l1.length+1) c) (z::l1)) :
  Calls Tryz.prog 27 #[.slice (some ⟨b,o,none⟩) (l1.length+1) c,.int .i64 d] w fun e w'=>GrRes B w w' d e:=by
 have C1:Hid _:=hp.c1
 have C2:Hid _:=hp.c2
 have C3:Hid _:=hp.c3
 obtain⟨hc,hcc,hr,hr1⟩:=h.tail
 have HR:Hid _:=hr
 have HR1:Hid _:=hr1
 have hn:=h.n
 obtain⟨n,hnn⟩:∃ n,n=l1.length:=⟨_,rfl⟩
 have HN:Hid (n=l1.length):=hnn
 simp only[List.length_cons] at hn
 rw[←hnn] at hn hcc ⊢
 unfold maxLen at hn
 have h0:¬((n:Int)+1=0):=by omega
 clear hnn hp hr hr1 h
 go_enter Tryz.func27,Tryz.ntmps27
 go_upto_region 3 with(fail)
 go_cut [6] from 12 to 27 (fun u6 wc=>u6=.pointer (some ⟨w.heap.size,0,none⟩)∧wc.heap[w.heap.size]?=some (trB k l m none none)∧Below w.heap.size w wc)
 case first=>
  go_region_held3 (fun w'=>w'.cell? ⟨b,o,none⟩=some (.int .i64 z)) (go_keep) (first|(have:=hm2;go_at_call 21;refine(C3.out _).mono ?_;rintro e w5 ⟨rfl,hw5⟩;obtain rfl:=hw5.symm)|(have:=hm1;go_at_call 21;refine(C2.out _).mono ?_;rintro e w5 ⟨rfl,hw5⟩;have hm2:True:=trivial;obtain rfl:=hw5.symm)|(go_at_call 21;refine(C1.out _).mono ?_;rintro e w5 ⟨rfl,hw5⟩;have hm1:True:=trivial;obtain rfl:=hw5.symm))
  all_goals
   go_wp2
   go_meet
   exact⟨rfl,heap_alloc_new w _,((Below.refl _ _).alloc (Nat.le_refl _) _).drew⟩
 case rest=>
 obtain⟨rfl,hq,hb⟩:=hcut
 obtain⟨p0,p1,p2,p3,p4⟩:=box5 hq
 have HQ:Hid _:=hq
 have HB:Hid _:=hb
 clear hq hb C1 C2 C3
 go_upto_region 4 with(fail)
 go_cut [0] from 28 to 29 (fun u0 wd=>wd=wc∧Raw B wc u0 l1)
 case first=>
  by_cases hc3:c=1
  ·subst hc3
   go_wp2
   go_meet
   exact⟨rfl,(HR1.out (by trivial)).below HB.out⟩
  ·go_wp2
   go_meet
   have:=HR.out.below HB.out
   rw[←HN.out] at this
   exact⟨rfl,this⟩
 case rest=>
 obtain⟨rfl,hraw⟩:=hcut
 have HRW:Hid _:=hraw
 have HWB:Hid (B≤w.heap.size):=hB
 clear hraw hB
 by_cases hd:d=0
 ·subst hd
  rcases hk with rfl|rfl|rfl
  all_goals
   go_wp2
   go_ret2
   exact⟨_,_,.lf _ l m,l1,rfl,⟨Nat.le_refl _,HQ.out⟩,⟨by omega,hl,hm⟩,HRW.out,HB.out⟩
 ·have hdI:((d:Int)==0)=false:=by simp;omega
  rcases hk with rfl|rfl|rfl
  all_goals
   go_wp2
   go_ret2
   refine⟨_,_,.lf _ l m,l1,rfl,⟨Nat.le_refl _,HQ.out⟩,?_,HRW.out,HB.out⟩
   cases d<;>exact⟨by omega,hl,hm⟩
theorem grown_cutoff (B:Nat) (w:World) (hB:B≤w.heap.size) (k':Nat) (b o c:Nat) (z:Int) (l1:List Int) (k l m:Nat) (hp:Gp z k l m) (hk:3≤k) (hk':k'=0∨k'=1∨k'=2) (hp4:∀ w,Calls Tryz.prog 21 #[.int .i64 k,.int .i64 3] w fun e w'=>e=.returned (.int .i64 k')∧w'=w) (hl:l≤2) (hm:m≤2) (h:Raw B w (.slice (some ⟨b,o,none⟩) (l1.length+1) c) (z::l1)) :
  Calls Tryz.prog 27 #[.slice (some ⟨b,o,none⟩) (l1.length+1) c,.int .i64 0] w fun e w'=>GrRes B w w' 0 e:=by
 have C4:Hid _:=hp4
 clear hp4
 have C1:Hid _:=hp.c1
 have C2:Hid _:=hp.c2
 have C3:Hid _:=hp.c3
 obtain⟨hc,hcc,hr,hr1⟩:=h.tail
 have HR:Hid _:=hr
 have HR1:Hid _:=hr1
 have hn:=h.n
 obtain⟨n,hnn⟩:∃ n,n=l1.length:=⟨_,rfl⟩
 have HN:Hid (n=l1.length):=hnn
 simp only[List.length_cons] at hn
 rw[←hnn] at hn hcc ⊢
 unfold maxLen at hn
 have h0:¬((n:Int)+1=0):=by omega
 clear hnn hp hr hr1 h
 go_enter Tryz.func27,Tryz.ntmps27
 go_upto_region 3 with(fail)
 go_cut [6] from 12 to 27 (fun u6 wc=>u6=.pointer (some ⟨w.heap.size,0,none⟩)∧wc.heap[w.heap.size]?=some (trB k l m none none)∧Below w.heap.size w wc)
 case first=>
  go_region_held3 (fun w'=>w'.cell? ⟨b,o,none⟩=some (.int .i64 z)) (go_keep) (first|(have:=hm2;go_at_call 21;refine(C3.out _).mono ?_;rintro e w5 ⟨rfl,hw5⟩;obtain rfl:=hw5.symm)|(have:=hm1;go_at_call 21;refine(C2.out _).mono ?_;rintro e w5 ⟨rfl,hw5⟩;have hm2:True:=trivial;obtain rfl:=hw5.symm)|(go_at_call 21;refine(C1.out _).mono ?_;rintro e w5 ⟨rfl,hw5⟩;have hm1:True:=trivial;obtain rfl:=hw5.symm))
  all_goals
   go_wp2
   go_meet
   exact⟨rfl,heap_alloc_new w _,((Below.refl _ _).alloc (Nat.le_refl _) _).drew⟩
 case rest=>
 obtain⟨rfl,hq,hb⟩:=hcut
 obtain⟨p0,p1,p2,p3,p4⟩:=box5 hq
 have HQ:Hid _:=hq
 have HB:Hid _:=hb
 clear hq hb C1 C2 C3
 go_upto_region 4 with(fail)
 go_cut [0] from 28 to 29 (fun u0 wd=>wd=wc∧Raw B wc u0 l1)
 case first=>
  by_cases hc3:c=1
  ·subst hc3
   go_wp2
   go_meet
   exact⟨rfl,(HR1.out (by trivial)).below HB.out⟩
  ·go_wp2
   go_meet
   have:=HR.out.below HB.out
   rw[←HN.out] at this
   exact⟨rfl,this⟩
 case rest=>
 obtain⟨rfl,hraw⟩:=hcut
 have HRW:Hid _:=hraw
 have HWB:Hid (B≤w.heap.size):=hB
 clear hraw hB
 have hk2:decide ((2:Int)<k)=true:=by simp;omega
 have hk3:(2:Int)<k:=by omega
 have f0:=fz_tr HQ.out 0
 have HRS:Hid (∀ x,Raw B (wc.setCell ⟨w.heap.size,0,none⟩ x) u0 l1):=fun x=>HRW.out.set HWB.out x
 rcases hk' with rfl|rfl|rfl
 all_goals
  go_wp2_with (go_at_call 21;refine(C4.out _).mono ?_;rintro e w5 ⟨rfl,hw5⟩;obtain rfl:=hw5.symm)
  go_ret2
  first|exact⟨_,_,.lf 0 l m,l1,rfl,⟨Nat.le_refl _,trB_set0 HQ.out 0⟩,⟨by decide,hl,hm⟩,HRS.out _,HB.out.setCell (Nat.le_refl _) _⟩|exact⟨_,_,.lf 1 l m,l1,rfl,⟨Nat.le_refl _,trB_set0 HQ.out 1⟩,⟨by decide,hl,hm⟩,HRS.out _,HB.out.setCell (Nat.le_refl _) _⟩|exact⟨_,_,.lf 2 l m,l1,rfl,⟨Nat.le_refl _,trB_set0 HQ.out 2⟩,⟨by decide,hl,hm⟩,HRS.out _,HB.out.setCell (Nat.le_refl _) _⟩
theorem grown_one (B:Nat) (w:World) (hB:B≤w.heap.size) (D:Nat) (hD:D≤9) (hIH:GrC D) (b o c:Nat) (z:Int) (l1:List Int) (k l m:Nat) (hp:Gp z k l m) (hk:k=5∨k=6∨k=7) (hl:l≤2) (hm:m≤2) (h:Raw B w (.slice (some ⟨b,o,none⟩) (l1.length+1) c) (z::l1)) :
  Calls Tryz.prog 27 #[.slice (some ⟨b,o,none⟩) (l1.length+1) c,.int .i64 ((D:Int)+1)] w fun e w'=>GrRes B w w' (D+1) e:=by
 have HIH:Hid _:=hIH
 clear hIH
 have C1:Hid _:=hp.c1
 have C2:Hid _:=hp.c2
 have C3:Hid _:=hp.c3
 obtain⟨hc,hcc,hr,hr1⟩:=h.tail
 have HR:Hid _:=hr
 have HR1:Hid _:=hr1
 have hn:=h.n
 obtain⟨n,hnn⟩:∃ n,n=l1.length:=⟨_,rfl⟩
 have HN:Hid (n=l1.length):=hnn
 simp only[List.length_cons] at hn
 rw[←hnn] at hn hcc ⊢
 unfold maxLen at hn
 have h0:¬((n:Int)+1=0):=by omega
 clear hnn hp hr hr1 h
 go_enter Tryz.func27,Tryz.ntmps27
 go_upto_region 3 with(fail)
 go_cut [6] from 12 to 27 (fun u6 wc=>u6=.pointer (some ⟨w.heap.size,0,none⟩)∧wc.heap[w.heap.size]?=some (trB k l m none none)∧Below w.heap.size w wc)
 case first=>
  go_region_held3 (fun w'=>w'.cell? ⟨b,o,none⟩=some (.int .i64 z)) (go_keep) (first|(have:=hm2;go_at_call 21;refine(C3.out _).mono ?_;rintro e w5 ⟨rfl,hw5⟩;obtain rfl:=hw5.symm)|(have:=hm1;go_at_call 21;refine(C2.out _).mono ?_;rintro e w5 ⟨rfl,hw5⟩;have hm2:True:=trivial;obtain rfl:=hw5.symm)|(go_at_call 21;refine(C1.out _).mono ?_;rintro e w5 ⟨rfl,hw5⟩;have hm1:True:=trivial;obtain rfl:=hw5.symm))
  all_goals
   go_wp2
   go_meet
   exact⟨rfl,heap_alloc_new w _,((Below.refl _ _).alloc (Nat.le_refl _) _).drew⟩
 case rest=>
 obtain⟨rfl,hq,hb⟩:=hcut
 obtain⟨p0,p1,p2,p3,p4⟩:=box5 hq
 have HQ:Hid _:=hq
 have HB:Hid _:=hb
 clear hq hb C1 C2 C3
 go_upto_region 4 with(fail)
 go_cut [0] from 28 to 29 (fun u0 wd=>wd=wc∧Raw B wc u0 l1)
 case first=>
  by_cases hc3:c=1
  ·subst hc3
   go_wp2
   go_meet
   exact⟨rfl,(HR1.out (by trivial)).below HB.out⟩
  ·go_wp2
   go_meet
   have:=HR.out.below HB.out
   rw[←HN.out] at this
   exact⟨rfl,this⟩
 case rest=>
 obtain⟨rfl,hraw⟩:=hcut
 have HRW:Hid _:=hraw
 have HWB:Hid (B≤w.heap.size):=hB
 clear hraw hB
 have hd0:((D:Int)+1==0)=false:=by simp;omega
 have HLQ:Hid (w.heap.size<wc.heap.size):=some_lt HQ.out
 rcases hk with rfl|rfl|rfl
 all_goals
  go_wp2_with (go_at_call 27;refine(HIH.out B _ _ _ (Nat.le_trans HWB.out HB.out.size) HRW.out).mono ?_;rintro e w5 ⟨px,v5,tx5,l5,rfl,ht5,ho5,hr5,hb5⟩;have HT5:Hid _:=ht5;have HO5:Hid _:=ho5;have HB5:Hid (Below w.heap.size w w5):=HB.out.trans (hb5.mono HB.out.size);have HQ5:Hid _:=(hb5.block _ HLQ.out).trans HQ.out;obtain⟨y0,y1,y2,y3,y4⟩:=box5 HQ5.out;have f3:=fz_tr HQ5.out 3;have HRX:Hid (∀ x,Raw B (w5.setCell ⟨w.heap.size,3,none⟩ x) v5 l5):=fun x=>hr5.set HWB.out x;clear ht5 ho5 hr5 hb5)
  go_ret2
  have hset:=trB_set3 HQ5.out (some ⟨px,0,none⟩)
  first|exact⟨_,_,.un 5 l m tx5,l5,rfl,⟨Nat.le_refl _,px,hset,(HT5.out.keep (fun b h1 h2=>set_blk _ _ _ _ (by have:=HLQ.out;omega))).mono (by have:=HLQ.out;omega)⟩,⟨by decide,hl,hm,HO5.out⟩,HRX.out _,HB5.out.setCell (Nat.le_refl _) _⟩|exact⟨_,_,.un 6 l m tx5,l5,rfl,⟨Nat.le_refl _,px,hset,(HT5.out.keep (fun b h1 h2=>set_blk _ _ _ _ (by have:=HLQ.out;omega))).mono (by have:=HLQ.out;omega)⟩,⟨by decide,hl,hm,HO5.out⟩,HRX.out _,HB5.out.setCell (Nat.le_refl _) _⟩|exact⟨_,_,.un 7 l m tx5,l5,rfl,⟨Nat.le_refl _,px,hset,(HT5.out.keep (fun b h1 h2=>set_blk _ _ _ _ (by have:=HLQ.out;omega))).mono (by have:=HLQ.out;omega)⟩,⟨by decide,hl,hm,HO5.out⟩,HRX.out _,HB5.out.setCell (Nat.le_refl _) _⟩
end Go.Proofs.YtbjabpodkaokjaaGreatDoor

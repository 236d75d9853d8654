import Derived.Test.YtbjabpodkaokjaaGreatDoorS05
import Derived.Test.YtbjabpodkaokjaaGreatDoorS02
import Derived.Test.YtbjabpodkaokjaaGreatDoorJ34
import Derived.Test.YtbjabpodkaokjaaGreatDoorS03
import Derived.Lib.ConvBytes
set_option linter.unusedVariables false
set_option linter.unusedSimpArgs false
set_option maxHeartbeats 4000000
set_option maxRecDepth 100000
namespace Go.Proofs.YtbjabpodkaokjaaGreatDoor
open Go.RowKit
theorem grown_two (B:Nat) (w:World) (hB:B≤w.heap.size) (D:Nat) (hD:D≤9) (hIH:GrC D) (b o c:Nat) (z:Int) (l1:List Int) (k l m:Nat) (hp:Gp z k l m) (hk:k=3∨k=4) (hl:l≤2) (hm:m≤2) (h:Raw B w (.slice (some ⟨b,o,none⟩) (l1.length+1) c) (z::l1)) :
  Calls Tryz.prog 27 #[.slice (some ⟨b,o,none⟩) (l1.length+1) c,.int .i64 ((D:Int)+1)] w fun e w'=>GrRes B w w' (D+1) e:=by
 have HIH:Hid _:=hIH
 clear hIH
 have C1:Hid _:=hp.c1
 have C2:Hid _:=hp.c2
 have C3:Hid _:=hp.c3
 obtain⟨hc,hcc,hr,hr1⟩:=h.tail
 have HR:Hid _:=hr
 have HR1:Hid _:=hr1
 have hn:=h.n
 obtain⟨n,hnn⟩:∃ n,n=l1.length:=⟨_,rfl⟩
 have HN:Hid (n=l1.length):=hnn
 simp only[List.length_cons] at hn
 rw[←hnn] at hn hcc ⊢
 unfold maxLen at hn
 have h0:¬((n:Int)+1=0):=by omega
 clear hnn hp hr hr1 h
 go_enter Tryz.func27,Tryz.ntmps27
 go_upto_region 3 with(fail)
 go_cut [6] from 12 to 27 (fun u6 wc=>u6=.pointer (some ⟨w.heap.size,0,none⟩)∧wc.heap[w.heap.size]?=some (trB k l m none none)∧Below w.heap.size w wc)
 case first=>
  go_region_held3 (fun w'=>w'.cell? ⟨b,o,none⟩=some (.int .i64 z)) (go_keep) (first|(have:=hm2;go_at_call 21;refine(C3.out _).mono ?_;rintro e w5 ⟨rfl,hw5⟩;obtain rfl:=hw5.symm)|(have:=hm1;go_at_call 21;refine(C2.out _).mono ?_;rintro e w5 ⟨rfl,hw5⟩;have hm2:True:=trivial;obtain rfl:=hw5.symm)|(go_at_call 21;refine(C1.out _).mono ?_;rintro e w5 ⟨rfl,hw5⟩;have hm1:True:=trivial;obtain rfl:=hw5.symm))
  all_goals
   go_wp2
   go_meet
   exact⟨rfl,heap_alloc_new w _,((Below.refl _ _).alloc (Nat.le_refl _) _).drew⟩
 case rest=>
 obtain⟨rfl,hq,hb⟩:=hcut
 obtain⟨p0,p1,p2,p3,p4⟩:=box5 hq
 have HQ:Hid _:=hq
 have HB:Hid _:=hb
 clear hq hb C1 C2 C3
 go_upto_region 4 with(fail)
 go_cut [0] from 28 to 29 (fun u0 wd=>wd=wc∧Raw B wc u0 l1)
 case first=>
  by_cases hc3:c=1
  ·subst hc3
   go_wp2
   go_meet
   exact⟨rfl,(HR1.out (by trivial)).below HB.out⟩
  ·go_wp2
   go_meet
   have:=HR.out.below HB.out
   rw[←HN.out] at this
   exact⟨rfl,this⟩
 case rest=>
 obtain⟨rfl,hraw⟩:=hcut
 have HRW:Hid _:=hraw
 have HWB:Hid (B≤w.heap.size):=hB
 clear hraw hB
 have hd0:((D:Int)+1==0)=false:=by simp;omega
 have HLQ:Hid (w.heap.size<wc.heap.size):=some_lt HQ.out
 rcases hk with rfl|rfl
 all_goals
  go_upto_region 9 with(go_at_call 27;refine(HIH.out B _ _ _ (Nat.le_trans HWB.out HB.out.size) HRW.out).mono ?_;rintro e w5 ⟨px,v5,tx5,l5,rfl,ht5,ho5,hr5,hb5⟩;have HLX:Hid (wc.heap.size≤w5.heap.size):=hb5.size;have HO5:Hid _:=ho5;have HB5:Hid (Below w.heap.size w w5):=HB.out.trans (hb5.mono HB.out.size);have HQ5:Hid _:=(hb5.block _ HLQ.out).trans HQ.out;obtain⟨y0,y1,y2,y3,y4⟩:=box5 HQ5.out;have f3:=fz_tr HQ5.out 3;have HRW2:Hid (Raw B (w5.setCell ⟨w.heap.size,3,none⟩ (.pointer (some ⟨px,0,none⟩))) v5 l5):=hr5.set HWB.out _;have HLX2:Hid (wc.heap.size≤(w5.setCell ⟨w.heap.size,3,none⟩ (.pointer (some ⟨px,0,none⟩))).heap.size):=Nat.le_trans hb5.size (Nat.le_of_eq (size_set' _ _ _).symm);have HTX:Hid (HTAt wc.heap.size (w5.setCell ⟨w.heap.size,3,none⟩ (.pointer (some ⟨px,0,none⟩))) px tx5):=ht5.keep (fun b h1 h2=>set_blk _ _ _ _ (by have:=HLQ.out;omega));have HQX:Hid _:=trB_set3 HQ5.out (some ⟨px,0,none⟩);have HBX:Hid (Below w.heap.size w (w5.setCell ⟨w.heap.size,3,none⟩ (.pointer (some ⟨px,0,none⟩)))):=HB5.out.setCell (Nat.le_refl _) _;have HSZ:Hid (B≤(w5.setCell ⟨w.heap.size,3,none⟩ (.pointer (some ⟨px,0,none⟩))).heap.size):=Nat.le_trans HWB.out HBX.out.size;have hmark:True:=trivial;clear ht5 ho5 hr5 hb5)
  obtain⟨W,hW⟩:∃ W,W=w5.setCell ⟨w.heap.size,3,none⟩ (.pointer (some ⟨px,0,none⟩)):=⟨_,rfl⟩
  rw[←hW] at HRW2 HTX HQX HBX HSZ HLX2
  simp only[←hW]
  clear hW
  obtain⟨y0,y1,y2,y3,y4⟩:=box5 HQX.out
  clear p0 p1 p2 p3 p4 f3 HQ5 HB5 HQ
  go_wp2_with (go_at_call 27;refine(HIH.out B _ _ _ HSZ.out HRW2.out).mono ?_;rintro e w6 ⟨py,v6,ty6,l6,rfl,ht6,ho6,hr6,hb6⟩;have HT6:Hid _:=ht6;have HO6:Hid _:=ho6;have HTX6:Hid (HTAt wc.heap.size w6 px tx5):=HTX.out.below hb6;have HB6:Hid (Below w.heap.size w w6):=HBX.out.trans (hb6.mono HBX.out.size);have HQ6:Hid _:=(hb6.block _ (Nat.lt_of_lt_of_le HLQ.out HLX2.out)).trans HQX.out;obtain⟨z0,z1,z2,z3,z4⟩:=box5 HQ6.out;have f4:=fz_tr HQ6.out 4;have HRY:Hid (∀ x,Raw B (w6.setCell ⟨w.heap.size,4,none⟩ x) v6 l6):=fun x=>hr6.set HWB.out x;clear ht6 ho6 hr6 hb6)
  go_ret2
  have hset:=trB_set4 HQ6.out (some ⟨py,0,none⟩)
  have hlq:=HLQ.out
  have hly:=HLX2.out
  first|exact⟨_,_,.bi 3 l m tx5 ty6,l6,rfl,⟨Nat.le_refl _,px,py,hset,(HTX6.out.keep (fun b h1 h2=>set_blk _ _ _ _ (by omega))).mono (by omega),(HT6.out.keep (fun b h1 h2=>set_blk _ _ _ _ (by omega))).mono (by omega)⟩,⟨by decide,hl,hm,HO5.out,HO6.out⟩,HRY.out _,HB6.out.setCell (Nat.le_refl _) _⟩|exact⟨_,_,.bi 4 l m tx5 ty6,l6,rfl,⟨Nat.le_refl _,px,py,hset,(HTX6.out.keep (fun b h1 h2=>set_blk _ _ _ _ (by omega))).mono (by omega),(HT6.out.keep (fun b h1 h2=>set_blk _ _ _ _ (by omega))).mono (by omega)⟩,⟨by decide,hl,hm,HO5.out,HO6.out⟩,HRY.out _,HB6.out.setCell (Nat.le_refl _) _⟩
theorem grown_any:∀ d,d≤9→GrC d
 |d,hd=>fun B w v l hB h=>by
  match l,h with
  |[],h=>
   obtain⟨a,c,rfl⟩:=h.r.form
   exact grown_nil B w d a c
  |z::l1,h=>
   obtain⟨b,o,c,rfl,-⟩:=h.r.nonnil (by simp)
   rw[List.length_cons] at h ⊢
   have hz:=h.b z (by simp)
   obtain⟨k,hk,c1⟩:=pk_at hz.1 hz.2 (n:=8) (by omega) (by omega) (z:=8) (by omega)
   obtain⟨l,hl,c2⟩:=pk_at (wrap_rg (z.tdiv 8)).1 (wrap_rg _).2 (n:=3) (by omega) (by omega) (z:=3) (by omega)
   obtain⟨m,hm,c3⟩:=pk_at (wrap_rg (z.tdiv 24)).1 (wrap_rg _).2 (n:=3) (by omega) (by omega) (z:=3) (by omega)
   have hp:Gp z k l m:=⟨c1,c2,c3⟩
   by_cases hk2:k≤2
   ·exact grown_leaf B w hB d b o c z l1 k l m hp (by omega) (by omega) (by omega) h
   ·match d,hd with
    |0,_=>
     obtain⟨k',hk',c4⟩:=pk_at (c:=(k:Int)) (by omega) (by omega) (n:=3) (by omega) (by omega) (z:=3) (by omega)
     exact grown_cutoff B w hB k' b o c z l1 k l m hp (by omega) (by omega) c4 (by omega) (by omega) h
    |D+1,hd=>
     have ih:=grown_any D (by omega)
     rw[show((D+1:Nat):Int)=(D:Int)+1 by omega]
     by_cases hk5:5≤k
     ·exact grown_one B w hB D (by omega) ih b o c z l1 k l m hp (by omega) (by omega) (by omega) h
     ·exact grown_two B w hB D (by omega) ih b o c z l1 k l m hp (by omega) (by omega) (by omega) h
theorem pk4 {c:Int} (h1:-9223372036854775808≤c) (h2:c≤9223372036854775807):∃ k,(k=0∨k=1∨k=2∨k=3)∧∀ w,Calls Tryz.prog 21 #[.int .i64 c,.int .i64 4] w fun e w'=>e=.returned (.int .i64 (k:Nat))∧w'=w:=by
 obtain⟨k,hk,hc⟩:=pk_at h1 h2 (n:=4) (by omega) (by omega) (z:=4) (by omega)
 exact⟨k,by omega,hc⟩
theorem cpd_no {w W:World} (hS:Sx.Tabs w) (hT:TabZ w) (hW:Below w.heap.size w W) {s:List UInt8} (hs:s.length≤300) (h:compM s 200=.inl (4,0)):Calls Tryz.prog 29 #[.string (ba s)] W fun e w'=>e=.returned (.tuple #[.pointer none,.bool true])∧Below W.heap.size W w':=by
 refine(cpd_any W (ba s) (tabs_at hS hW) (tabz_at hT hW) (by rw[ba_size];unfold maxLen;omega)).mono ?_
 rintro e w' ⟨h1,h2⟩
 rw[show(ba s).data.toList=s from rfl,h] at h1
 exact⟨h1,h2⟩
theorem cpd_yes {w W:World} (hS:Sx.Tabs w) (hT:TabZ w) (hW:Below w.heap.size w W) {s:List UInt8} (hs:s.length≤300) {T:Tb} (h:compM s 200=.inr T):Calls Tryz.prog 29 #[.string (ba s)] W fun e w'=>∃ m c,e=.returned (.tuple #[.pointer (some ⟨m,0,none⟩),.bool true])∧Mch w' m T c∧Below W.heap.size W w':=by
 refine(cpd_any W (ba s) (tabs_at hS hW) (tabz_at hT hW) (by rw[ba_size];unfold maxLen;omega)).mono ?_
 rintro e w' ⟨h1,h2⟩
 rw[show(ba s).data.toList=s from rfl,h] at h1
 obtain⟨m,c,h3,h4,h5⟩:=h1
 exact⟨m,c,h3,h4 w' (Hi.refl _ _),h2⟩
end Go.Proofs.YtbjabpodkaokjaaGreatDoor

import Derived.Test.YtbjabpodkaokjaaGreatDoorJ33
import Derived.Test.YtbjabpodkaokjaaGreatDoorJ11
import Derived.KernelRfl
import Derived.Test.YtbjabpodkaokjaaGreatDoorJ19
set_option linter.unusedVariables false
set_option linter.unusedSimpArgs false
set_option maxHeartbeats 4000000
set_option maxRecDepth 100000
namespace Go.Proofs.YtbjabpodkaokjaaGreatDoor
open Go.RowKit
def CpdRes (w w':World) (r:(Int×Int) ⊕ Tb) (e:Ending):Prop:=match r with
 |.inl x=>e=.returned (.tuple #[.pointer none,.bool (x.1==4&&x.2==0)])
 |.inr t=>∃ m c,e=.returned (.tuple #[.pointer (some ⟨m,0,none⟩),.bool true])∧(∀ w2,Hi w.heap.size w' w2→Mch w2 m t c)∧w.heap.size≤m
theorem cpd_any (w:World) (s:ByteArray) (hS:Sx.Tabs w) (hT:TabZ w) (hs:s.size≤maxLen) :
  Calls Tryz.prog 29 #[.string s] w fun e w'=>CpdRes w w' (compM s.data.toList 200) e∧Below w.heap.size w w':=by
 have hc:=comp_any w s 200 hS hT hs
 cases hM:compM s.data.toList 200 with
 |inl x=>
  rw[hM] at hc
  obtain⟨a,b⟩:=x
  have HC:Hid (Calls Tryz.prog 14 #[.string s,.int .i64 200] w fun e w'=>CompRes w w' (.inl (a,b)) e∧Below w.heap.size w w'):=hc
  clear hc hS hT hM hs
  by_cases ha:a=4
  ·subst ha
   go_enter Tryz.func29,Tryz.ntmps29
   go_wp2_with (go_at_call 14;refine HC.out.mono ?_;rintro e w1 ⟨rfl,hb1⟩)
   go_ret2
   exact⟨rfl,hb1⟩
  ·have ha':(a==4)=false:=by simpa using ha
   go_enter Tryz.func29,Tryz.ntmps29
   go_wp2_with (go_at_call 14;refine HC.out.mono ?_;rintro e w1 ⟨rfl,hb1⟩)
   go_ret2
   refine⟨?_,hb1⟩
   show _=_
   simp[ha']
 |inr t=>
  rw[hM] at hc
  have HC:Hid (Calls Tryz.prog 14 #[.string s,.int .i64 200] w fun e w'=>CompRes w w' (.inr t) e∧Below w.heap.size w w'):=hc
  clear hc hS hT hM hs
  go_enter Tryz.func29,Tryz.ntmps29
  go_wp2_with (go_at_call 14;refine HC.out.mono ?_;rintro e w1 ⟨⟨m,c,rfl,hm,hl⟩,hb1⟩;have HM:Hid (∀ w2,Hi w.heap.size w1 w2→Mch w2 m t c):=hm;clear hm)
  go_ret2
  exact⟨⟨m,c,rfl,HM.out,hl⟩,hb1⟩
abbrev tx1:List UInt8:=[120,120,97,98,120,97,98]
abbrev tx2:List UInt8:=[98,97]
def abOk:Bool:=match compM [97,98] 200 with
 |.inr t=>(lastI (endsL t tx1)==7)&&(firstI (endsL t tx1)==4)&&(lastI (endsL t tx2)==-1)&&!(endsL t tx1).isEmpty
 |.inl _=>false
theorem ab_ok:abOk=true:=by kernel_rfl
theorem ab_is:∃ t,compM [97,98] 200=.inr t∧lastI (endsL t tx1)=7∧firstI (endsL t tx1)=4∧lastI (endsL t tx2)=-1∧(endsL t tx1).isEmpty=false:=by
 have h:=ab_ok
 unfold abOk at h
 split at h
 ·rename_i t ht
  simp only[Bool.and_eq_true,beq_iff_eq,Bool.not_eq_true'] at h
  exact⟨t,ht,h.1.1.1,h.1.1.2,h.1.2,h.2⟩
 ·cases h
theorem plain_yes (w:World) (hS:Sx.Tabs w) (hT:TabZ w) :
  Calls Tryz.prog 20 #[] w fun e w'=>e=.returned (.bool true)∧Below w.heap.size w w':=by
 obtain⟨t,ht,h1,h2,h3,h4⟩:=ab_is
 have hc:=cpd_any w ⟨#[97,98]⟩ hS hT (by decide)
 rw[show(⟨#[97,98]⟩:ByteArray).data.toList=[97,98] from rfl,ht] at hc
 have HC:Hid (Calls Tryz.prog 29 #[.string ⟨#[97,98]⟩] w fun e w'=>CpdRes w w' (.inr t) e∧Below w.heap.size w w'):=hc
 have HIM:Hid (∀ W m c,Mch W m t c→Calls Tryz.prog 39 #[.pointer (some ⟨m,0,none⟩),.string ⟨#[120,120,97,98,120,97,98]⟩] W fun e w'=>e=.returned (.tuple #[.bool true,.int .i64 0])∧Below W.heap.size W w'):=fun W m c h=>by
  have:=ismatch_any W m t c h tx1 (by decide)
  rw[h4] at this
  exact this
 have HSE:Hid (∀ W m c,Mch W m t c→Calls Tryz.prog 55 #[.pointer (some ⟨m,0,none⟩),.string ⟨#[120,120,97,98,120,97,98]⟩] W fun e w'=>e=.returned (.tuple #[.int .i64 4,.int .i64 0])∧Below W.heap.size W w'):=fun W m c h=>by
  have:=shortest_any W m t c h tx1 (by decide)
  rw[h2] at this
  exact this
 have HL1:Hid (∀ W m c,Mch W m t c→Calls Tryz.prog 56 #[.pointer (some ⟨m,0,none⟩),.string ⟨#[120,120,97,98,120,97,98]⟩] W fun e w'=>e=.returned (.tuple #[.int .i64 7,.int .i64 0])∧Below W.heap.size W w'):=fun W m c h=>by
  have:=longest_any W m t c h tx1 (by decide)
  rw[h1] at this
  exact this
 have HL2:Hid (∀ W m c,Mch W m t c→Calls Tryz.prog 56 #[.pointer (some ⟨m,0,none⟩),.string ⟨#[98,97]⟩] W fun e w'=>e=.returned (.tuple #[.int .i64 (-1),.int .i64 0])∧Below W.heap.size W w'):=fun W m c h=>by
  have:=longest_any W m t c h tx2 (by decide)
  rw[h3] at this
  exact this
 clear hc hS hT h1 h2 h3 h4 ht
 go_enter Tryz.func20,Tryz.ntmps20
 go_wp2_with (first|(go_at_call 56;refine(HL2.out _ _ _ (HM4.out)).mono ?_;rintro e w5 ⟨rfl,hb5⟩;have HB5:Hid (Below w.heap.size w w5):=HB4.out.trans (hb5.mono HB4.out.size);clear hb5)|(go_at_call 56;refine(HL1.out _ _ _ (HM3.out)).mono ?_;rintro e w4 ⟨rfl,hb4⟩;have HB4:Hid (Below w.heap.size w w4):=HB3.out.trans (hb4.mono HB3.out.size);have HM4:Hid (Mch w4 m t c):=HM3.out.below hb4;clear hb4)|(go_at_call 55;refine(HSE.out _ _ _ (HM2.out)).mono ?_;rintro e w3 ⟨rfl,hb3⟩;have HB3:Hid (Below w.heap.size w w3):=HB2.out.trans (hb3.mono HB2.out.size);have HM3:Hid (Mch w3 m t c):=HM2.out.below hb3;clear hb3)|(go_at_call 39;refine(HIM.out _ _ _ (HM1.out)).mono ?_;rintro e w2 ⟨rfl,hb2⟩;have HB2:Hid (Below w.heap.size w w2):=HB1.out.trans (hb2.mono HB1.out.size);have HM2:Hid (Mch w2 m t c):=HM1.out.below hb2;clear hb2)|(go_at_call 29;refine HC.out.mono ?_;rintro e w1 ⟨⟨m,c,rfl,hm,hl⟩,hb1⟩;have HB1:Hid (Below w.heap.size w w1):=hb1;have HM1:Hid (Mch w1 m t c):=hm _ (Hi.refl _ _);clear hm hb1))
 go_ret
 exact⟨rfl,HB5.out⟩
open Sx (Prt Cnt)
theorem tabs_at {w W:World} (hS:Sx.Tabs w) (hb:Below w.heap.size w W):Sx.Tabs W:=hS.of_block (fun k hk=>hb.block k (by have:=hS.lt;omega))
theorem tabz_at {w W:World} (hT:TabZ w) (hb:Below w.heap.size w W):TabZ W:=hT.keep (hb.block 1 hT.lt)
end Go.Proofs.YtbjabpodkaokjaaGreatDoor

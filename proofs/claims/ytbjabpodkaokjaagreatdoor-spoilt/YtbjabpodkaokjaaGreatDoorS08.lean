import Derived.Test.YtbjabpodkaokjaaGreatDoorS07
import Derived.BigGuard
set_option linter.unusedVariables false
set_option linter.unusedSimpArgs false
set_option maxHeartbeats 4000000
set_option maxRecDepth 100000
namespace Go.Proofs.YtbjabpodkaokjaaGreatDoor
open Go.RowKit
structure SpK(w:World)(ob:Obj)(W:World):Prop where
 b:Below w.heap.size w W
 k:W.heap[w.heap.size]?=some ob
theorem SpK.next {w W W':World} {ob:Obj} (h:SpK w ob W)(hb:Below W.heap.size W W'):SpK w ob W':=⟨h.b.trans(hb.mono h.b.size),(hb.block _(some_lt h.k)).trans h.k⟩
theorem SpK.alloc {w W:World} {ob:Obj} (h:SpK w ob W)(x:Obj):SpK w ob(W.alloc x):=h.next((Below.refl _ _).alloc(Nat.le_refl _)_)
theorem spoilt_any(w:World)(v:Value)(l:List Int)(ends form at_ m0 m1 m2 m3:Int)(hS:Sx.Tabs w)(hT:TabZ w)(hr:Raw w.heap.size w v l)(r1:-9223372036854775808≤ends∧ends≤9223372036854775807)(r2:-9223372036854775808≤form∧form≤9223372036854775807)(r3:-9223372036854775808≤at_∧at_≤9223372036854775807)(rm:∀ z∈[m0,m1,m2,m3],-9223372036854775808≤z∧z≤9223372036854775807) :
  Calls Tryz.prog 10 #[v,.int .i64 ends,.int .i64 form,.int .i64 at_,mkV m0 m1 m2 m3] w fun e w'=>e=.returned(.bool true)∧Below w.heap.size w w':=by
 have HPL:Hid(∀ x,Calls Tryz.prog 20 #[](w.alloc x)fun e w'=>e=.returned(.bool true)∧Below(w.alloc x).heap.size(w.alloc x)w'):=fun x=>by
  have hb:Below w.heap.size w(w.alloc x):=(Below.refl _ _).alloc(Nat.le_refl _)_
  exact plain_yes _(tabs_at hS hb)(tabz_at hT hb)
 have HSO:Hid(∀ W,Below w.heap.size w W→Calls Tryz.prog 30 #[v,.int .i64 ends] W fun e w'=>∃ p f b t,e=.returned(svV p f b)∧HTAt W.heap.size w' p t∧HTOk 4 t∧Below W.heap.size W w'):=fun W hW=>sought_at hr hW r1.1 r1.2
 have HS:Hid(Sx.Tabs w):=hS
 have HTZ:Hid(TabZ w):=hT
 clear hr hS hT
 go_enter Tryz.func10,Tryz.ntmps10
 go_upto_region 3 with(first|(have:=hmark;go_at_call 30;refine(HSO.out _ HB1.out).mono ?_;rintro e w2⟨p,f,b,t,rfl,ht2,ho2,hb2⟩;have HT2:Hid _:=ht2;have HO2:Hid _:=ho2;have HB2:Hid(Below w.heap.size w w2):=HB1.out.trans(hb2.mono HB1.out.size);have HBL:Hid(Below w1.heap.size w1 w2):=hb2;clear ht2 ho2 hb2)|(go_at_call 20;refine(HPL.out _).mono ?_;rintro e w1⟨rfl,hb1⟩;have HB1:Hid(Below w.heap.size w w1):=((Below.refl _ _).alloc(Nat.le_refl _)_).trans(hb1.mono(by simp));have HK1:Hid(w1.heap[w.heap.size]?=_):=(hb1.block _(by simp)).trans(heap_alloc_new w _);have hmark:True:=trivial;clear hb1))
 obtain⟨W3,hW3⟩:∃ W3,W3=w2.alloc(.cells #[.pointer(some⟨p,0,none⟩),.bool f,.bool b] 62):=⟨_,rfl⟩
 have HB3:Hid(Below w.heap.size w W3):=by rw [hW3];exact HB2.out.alloc HB2.out.size _
 have HK3:Hid(SpK w(.cells #[.int .i64 m0,.int .i64 m1,.int .i64 m2,.int .i64 m3] 72)W3):=by
  rw [hW3]
  exact SpK.alloc⟨HB2.out,(HBL.out.block _(some_lt HK1.out)).trans HK1.out⟩_
 obtain⟨s0,s1,s2⟩:=box3(show W3.heap[w2.heap.size]?=some(.cells #[.pointer(some⟨p,0,none⟩),.bool f,.bool b] 62)by rw [hW3];exact heap_alloc_new w2 _)
 obtain⟨S,hSe⟩:∃ S,S=ba(ptx t f b):=⟨_,rfl⟩
 have HTX:Hid(Calls Tryz.prog 31 #[svV p f b] W3 fun e w'=>e=.returned(.string S)∧Below W3.heap.size W3 w'):=by
  rw [hSe]
  have:=HT2.out.below(show Below w2.heap.size w2 W3 by rw [hW3];exact(Below.refl _ _).alloc(Nat.le_refl _)_)
  exact stext_any HO2.out this f b
 rw [←hW3]
 clear hW3 HT2 HB2 HB1 HK1 HBL HPL HSO HB3
 have hlen:=ptx_len HO2.out f b
 rcases ptx_comp HO2.out f b with⟨hc,-⟩|⟨T,n,k,hc,hF,hn,hk,-,-,-⟩
 ·have HCP:Hid(∀ W,Below w.heap.size w W→Calls Tryz.prog 29 #[.string S] W fun e w'=>e=.returned(.tuple #[.pointer none,.bool true])∧Below W.heap.size W w'):=fun W hW=>by rw [hSe];exact cpd_no HS.out HTZ.out hW(by omega)hc
  clear hc hlen hSe
  go_wp2_with(first|(have hmk:=HK4.out;go_at_call 29;refine(HCP.out _ HK4.out.b).mono ?_;clear hmk;rintro e w5⟨rfl,hb5⟩;have HK5:Hid _:=HK4.out.next hb5;clear hb5)|(go_at_call 31;refine HTX.out.mono ?_;rintro e w4⟨rfl,hb4⟩;have HK4:Hid _:=HK3.out.next hb4;clear hb4))
  go_ret
  exact⟨rfl,HK5.out.b⟩
 ·obtain⟨tb,htb⟩:∃ tb,tb=tbOf(leastM T):=⟨_,rfl⟩
  obtain⟨hi,hsm⟩:=least_small hF.ok hn hk
  rw [←htb] at hc hi hsm
  have HCP:Hid(∀ W,Below w.heap.size w W→Calls Tryz.prog 29 #[.string S] W fun e w'=>∃ m c,e=.returned(.tuple #[.pointer(some⟨m,0,none⟩),.bool true])∧Mch w' m tb c∧Below W.heap.size W w'):=fun W hW=>by rw [hSe];exact cpd_yes HS.out HTZ.out hW(by omega)hc
  have HI:Hid(isTb tb=true):=hi
  have HSM:Hid(Small tb):=hsm
  clear hc hlen hSe hF hn hk htb hi hsm
  go_upto_region 8 with(first|(have hmk:=HK4.out;go_at_call 29;refine(HCP.out _ HK4.out.b).mono ?_;clear hmk;rintro e w5⟨m,c,rfl,hm5,hb5⟩;have HM5:Hid(Mch w5 m tb c):=hm5;have HK5:Hid _:=HK4.out.next hb5;clear hb5 hm5)|(go_at_call 31;refine HTX.out.mono ?_;rintro e w4⟨rfl,hb4⟩;have HK4:Hid _:=HK3.out.next hb4;clear hb4))
  clear HTX HCP HK4 HK3 s0 s1 s2
  obtain⟨kd,hkd,hp2⟩:=pk_at r2.1 r2.2(n:=2)(by omega)(by omega)(z:=2)(by omega)
  obtain⟨p4,hp4l,hp4⟩:=pk_at r2.1 r2.2(n:=4)(by omega)(by omega)(z:=4)(by omega)
  have HP2:Hid _:=hp2
  have HP4:Hid _:=hp4
  obtain⟨big,hbig⟩:∃ big,big=decide((1:Int)<p4):=⟨_,rfl⟩
  obtain⟨E,hE⟩:∃ E,E=enc tb kd big:=⟨_,rfl⟩
  obtain⟨Eb,hEb⟩:∃ Eb,Eb=ba E:=⟨_,rfl⟩
  have HE:Hid(E=enc tb kd big):=hE
  have HEB:Hid(Eb=ba E):=hEb
  have HEN:Hid(∀ W m c,Mch W m tb c→Calls Tryz.prog 34 #[.pointer(some⟨m,0,none⟩),.int .i64 kd,.bool(decide((1:Int)<p4))] W fun e w'=>e=.returned(.tuple #[.string Eb,.int .i64 0])∧Below W.heap.size W w'):=fun W m c h=>by
   rw [←hbig,hEb,hE];exact encode_any W m tb c h kd(by omega)big
  obtain⟨cc,hok⟩:=tbOk_of HI.out
  obtain⟨hN1,hN2⟩:=enc_size(kind:=kd)big hok.fits
  rw [←hE] at hN1 hN2
  have hsz:Eb.size=E.length:=by rw [hEb,ba_size]
  rw [←hsz] at hN1 hN2
  have HLD:Hid(∀ W,Calls Tryz.prog 35 #[.string Eb] W fun e w'=>∃ m c,e=.returned(.tuple #[.pointer(some⟨m,0,none⟩),.int .i64 0])∧Mch w' m tb c∧Below W.heap.size W w'):=fun W=>by
   rw [hEb]
   refine(load_some W E(by unfold maxLen;omega)tb(by rw [hE];exact load_self tabular_is HI.out(by omega)big)).mono ?_
   rintro e w'⟨m,c,h1,h2,-,h3⟩
   exact⟨m,c,h1,h2,h3⟩
  have HST:Hid(∀ W va vn va' vn',TabIn W tb va vn→TabIn W tb va' vn'→Calls Tryz.prog 26 #[tv tb va vn,tv tb va' vn'] W fun e w'=>e=.returned(.bool true)∧Below W.heap.size W w'):=fun W va vn va' vn' h h'=>sameTable_eq W tb va vn va' vn' h h' HSM.out
  have HSZ:Hid(Eb.size=E.length):=hsz
  have HBIG:Hid(big=decide((1:Int)<p4)):=hbig
  obtain⟨N,hN⟩:∃ N,N=Eb.size:=⟨_,rfl⟩
  have HN:Hid(N=Eb.size):=hN
  have hl1:decide((Eb.size:Int)<274)=false:=by simp;omega
  have hl2:¬ (Eb.size:Int)<274:=by omega
  clear hp2 hp4 hE hEb hsz hbig hok hN
  go_upto_region 9 with(go_at_call 21;refine(HP2.out _).mono ?_;rintro e w6⟨rfl,hw6⟩;obtain rfl:=hw6.symm)
  go_upto_region 10 with(go_at_call 21;refine(HP4.out _).mono ?_;rintro e w6⟨rfl,hw6⟩;obtain rfl:=hw6.symm)
  go_upto_region 11 with(go_at_call 34;refine(HEN.out _ _ _ HM5.out).mono ?_;rintro e w6⟨rfl,hb6⟩;have HM6:Hid(Mch w6 m tb c):=HM5.out.below hb6;have HK6:Hid _:=HK5.out.next hb6;clear hb6)
  clear HM5 HK5
  go_upto_region 14 with(go_at_call 35;refine(HLD.out _).mono ?_;rintro e w7⟨y,c7,rfl,hy7,hb7⟩;have HM7:Hid(Mch w7 m tb c):=HM6.out.below hb7;have HY7:Hid(Mch w7 y tb c7):=hy7;have HK7:Hid _:=HK6.out.next hb7;clear hb7 hy7)
  clear HM6 HK6
  go_upto_region 15 with(go_at_call 34;refine(HEN.out _ _ _ HY7.out).mono ?_;rintro e w8⟨rfl,hb8⟩;have HM8:Hid(Mch w8 m tb c):=HM7.out.below hb8;have HY8:Hid(Mch w8 y tb c7):=HY7.out.below hb8;have HK8:Hid _:=HK7.out.next hb8;clear hb8)
  clear HM7 HY7 HK7
  go_upto_region 16 with(go_at_call 16;refine(mtable_any _ m tb c HM8.out).mono ?_;rintro e w9⟨tA,tB,gs,rfl,htn,hb9⟩;have HT9:Hid(TabIn w9 tb(.slice(some⟨tA,0,none⟩)tb.acc.length tb.acc.length)(.slice(some⟨tB,0,none⟩)tb.next.length tb.next.length)):=htn.tab;have HY9:Hid(Mch w9 y tb c7):=HY8.out.below hb9;have HK9:Hid _:=HK8.out.next hb9;clear hb9 htn)
  clear HM8 HY8 HK8
  obtain⟨Wa,hWa⟩:∃ Wa,Wa=w9.alloc(.cells #[.bool tb.front,.bool tb.back,.int .i64 tb.start,.string(ba tb.cls),.slice(some⟨tA,0,none⟩)tb.acc.length tb.acc.length,.slice(some⟨tB,0,none⟩)tb.next.length tb.next.length] 33):=⟨_,rfl⟩
  rw [←hWa]
  have HKa:Hid(SpK w(.cells #[.int .i64 m0,.int .i64 m1,.int .i64 m2,.int .i64 m3] 72)Wa):=by rw [hWa];exact HK9.out.alloc _
  have hba:Below w9.heap.size w9 Wa:=by rw [hWa];exact(Below.refl _ _).alloc(Nat.le_refl _)_
  have HTa:Hid(TabIn Wa tb(.slice(some⟨tA,0,none⟩)tb.acc.length tb.acc.length)(.slice(some⟨tB,0,none⟩)tb.next.length tb.next.length)):=HT9.out.below hba
  have HYa:Hid(Mch Wa y tb c7):=HY9.out.below hba
  have HXa:Hid(Wa.heap[w9.heap.size]?=some(.cells #[.bool tb.front,.bool tb.back,.int .i64 tb.start,.string(ba tb.cls),.slice(some⟨tA,0,none⟩)tb.acc.length tb.acc.length,.slice(some⟨tB,0,none⟩)tb.next.length tb.next.length] 33)):=by rw [hWa];exact heap_alloc_new w9 _
  clear hWa hba HT9 HY9 HK9
  go_upto_region 17 with(go_at_call 16;refine(mtable_any _ y tb c7 HYa.out).mono ?_;rintro e wb⟨tC,tD,gs',rfl,htn,hb10⟩;have HTb:Hid(TabIn wb tb(.slice(some⟨tA,0,none⟩)tb.acc.length tb.acc.length)(.slice(some⟨tB,0,none⟩)tb.next.length tb.next.length)∧TabIn wb tb(.slice(some⟨tC,0,none⟩)tb.acc.length tb.acc.length)(.slice(some⟨tD,0,none⟩)tb.next.length tb.next.length)):=⟨HTa.out.below hb10,htn.tab⟩;have HKb:Hid _:=HKa.out.next hb10;have HXb:Hid _:=(hb10.block _(some_lt HXa.out)).trans HXa.out;clear hb10 htn)
  obtain⟨Wc,hWc⟩:∃ Wc,Wc=wb.alloc(.cells #[.bool tb.front,.bool tb.back,.int .i64 tb.start,.string(ba tb.cls),.slice(some⟨tC,0,none⟩)tb.acc.length tb.acc.length,.slice(some⟨tD,0,none⟩)tb.next.length tb.next.length] 33):=⟨_,rfl⟩
  rw [←hWc]
  have HKc:Hid(SpK w(.cells #[.int .i64 m0,.int .i64 m1,.int .i64 m2,.int .i64 m3] 72)Wc):=by rw [hWc];exact HKb.out.alloc _
  have hbc:Below wb.heap.size wb Wc:=by rw [hWc];exact(Below.refl _ _).alloc(Nat.le_refl _)_
  have HTc:Hid(TabIn Wc tb(.slice(some⟨tA,0,none⟩)tb.acc.length tb.acc.length)(.slice(some⟨tB,0,none⟩)tb.next.length tb.next.length)∧TabIn Wc tb(.slice(some⟨tC,0,none⟩)tb.acc.length tb.acc.length)(.slice(some⟨tD,0,none⟩)tb.next.length tb.next.length)):=⟨HTb.out.1.below hbc,HTb.out.2.below hbc⟩
  obtain⟨x0,x1,x2,x3,x4,x5⟩:=box6((hbc.block _(some_lt HXb.out)).trans HXb.out)
  obtain⟨y0,y1,y2,y3,y4,y5⟩:=box6(show Wc.heap[wb.heap.size]?=_ by rw [hWc];exact heap_alloc_new wb _)
  clear hWc hbc HTb HKb HXb HXa HTa HYa HKa
  go_upto_region 18 with(go_at_call 26;refine(HST.out _ _ _ _ _ HTc.out.1 HTc.out.2).mono ?_;rintro e wd⟨rfl,hb11⟩;have HKd:Hid _:=HKc.out.next hb11;clear hb11)
  clear x0 x1 x2 x3 x4 x5 y0 y1 y2 y3 y4 y5 HTc HKc HST
  obtain⟨k0,hk0,hpk⟩:∃ k0,k0<Eb.size∧∀ W,Calls Tryz.prog 21 #[.int .i64 at_,.int .i64(Eb.size:Int)] W fun e w'=>e=.returned(.int .i64(k0:Nat))∧w'=W:=⟨pkN at_ Eb.size,pkN_lt _ _(by omega),fun W=>kpick_any W at_ Eb.size r3.1 r3.2(by omega)(by omega)⟩
  have HPK:Hid _:=hpk
  clear hpk
  go_upto_region 21 with(go_at_call 21;refine(HPK.out _).mono ?_;rintro e w6⟨rfl,hw6⟩;obtain rfl:=hw6.symm)
  clear HPK
  obtain⟨tz,htz⟩:∃ tz,tz=if k0<Eb.size-4 then Eb.size-4 else Eb.size:=⟨_,rfl⟩
  have HTO:Hid(tz≤Eb.size∧k0<tz∧(k0<Eb.size-4→tz=Eb.size-4)):=by
   show _∧_∧_
   rw [htz];split<;>omega
  have hcv:=fun x:World=>Lib.run_convert_string_bytes(P:=Tryz.prog)x 9 73 5 Eb und_str Tryz.underlying73 und_byte
  by_cases hks:k0<Eb.size-4
  ·have hksI:(k0:Int)<Eb.size-4:=by omega
   have hte:(Eb.size:Int)-4=tz:=by rw [htz,if_pos hks];omega
   have HTE:Hid _:=hte
   clear hte htz
   go_upto_region 24 with(fail)
   rw [HTE.out]
   go_upto_region 25 with(fail)
   obtain⟨hbw,hbb⟩:=bw_new wd Eb HEB.out
   obtain⟨W0,hW0⟩:∃ W0,W0=Lib.bytesWorld wd 5 Eb:=⟨_,rfl⟩
   rw [←hW0] at hbw hbb ⊢
   have HBW:Hid(BW W0 wd.heap.size Eb.size(fun j=>E.getD j 0)):=hbw
   have HK0:Hid(SpK w(.cells #[.int .i64 m0,.int .i64 m1,.int .i64 m2,.int .i64 m3] 72)W0):=HKd.out.next hbb
   have HG:Hid(w.heap.size<wd.heap.size):=some_lt HKd.out.k
   obtain⟨g,hg⟩:∃ g,g=wd.heap.size:=⟨_,rfl⟩
   obtain⟨cap,hcap⟩:∃ cap,cap=grownCap wd Eb.size 0 5:=⟨_,rfl⟩
   rw [←hg] at HBW HG ⊢
   rw [←hcap]
   clear hW0 hbw hbb hcv hg hcap HKd
   obtain⟨mask,hmask⟩:∃ mask:Nat→Int,mask=fun i=>[m0,m1,m2,m3].getD i 0:=⟨_,rfl⟩
   obtain⟨V,hV⟩:∃ V:Nat→UInt8,V=fun i=>UInt8.ofNat(pkN(mask i)256):=⟨_,rfl⟩
   have HVN:Hid(∀ i,((V i).toNat:Nat)=pkN(mask i)256):=fun i=>by
    have:=pkN_lt(mask i)256(by omega)
    rw [hV];simp;omega
   have HMP:Hid(∀ i,i<4→∀ W,Calls Tryz.prog 21 #[.int .i64(mask i),.int .i64 256] W fun e w'=>e=.returned(.int .i64((V i).toNat:Nat))∧w'=W):=fun i hi W=>by
    rw [HVN.out i]
    have:=rm(mask i)(by
     rw [hmask]
     have:i=0∨i=1∨i=2∨i=3:=by omega
     rcases this with rfl|rfl|rfl|rfl<;>simp)
    exact kpick_any W(mask i)256 this.1 this.2(by omega)(by omega)
   have HMC:Hid(∀ W,SpK w(.cells #[.int .i64 m0,.int .i64 m1,.int .i64 m2,.int .i64 m3] 72)W→∀ i,i<4→W.cell?⟨w.heap.size,i,none⟩=some(.int .i64(mask i))):=fun W hW i hi=>by
    have hbx:=hW.k
    rw [hmask]
    simp only [World.cell?,hbx]
    have:i=0∨i=1∨i=2∨i=3:=by omega
    rcases this with rfl|rfl|rfl|rfl<;>simp [go_sem]
   clear hmask hV rm
   go_upto_region 27 with(fail)
   go_loopw [31,32,33](fun ch j _ wr=>∃ i:Nat,ch=.bool(chg V i)∧j=.int .i64 i∧i≤4∧k0+i≤tz∧SpK w(.cells #[.int .i64 m0,.int .i64 m1,.int .i64 m2,.int .i64 m3] 72)wr∧BW wr g Eb.size(turnB V k0 i E))(fun _ j _ _=>4-(intOf j).toNat)
   case atStart=>exact⟨0,rfl,rfl,by omega,by have:=HTO.out;omega,HK0.out,HBW.out.c_0⟩
   case round=>
    obtain⟨i,rfl,rfl,hi4,hit,hkr,hbr⟩:=hrel
    have HKR:Hid(SpK w(.cells #[.int .i64 m0,.int .i64 m1,.int .i64 m2,.int .i64 m3] 72)wr):=hkr
    have HBR:Hid(BW wr g Eb.size(turnB V k0 i E)):=hbr
    by_cases hlt:i<4∧k0+i<tz
    ·obtain⟨h4,h5⟩:=hlt
     have h4I:(i:Int)<4:=by omega
     have h5I:(k0:Int)+i<tz:=by omega
     have hki:k0+i<Eb.size:=by have:=HTO.out;omega
     have d1:=HMC.out wr hkr i h4
     have d2:=hbr.c(k0+i)hki
     rw [turnB_new] at d2
     have d3:=hbr.f(k0+i)hki
     obtain⟨x,hx⟩:∃ x,x=E.getD(k0+i)0:=⟨_,rfl⟩
     rw [←hx] at d2
     have hxor:=bits_xor_u8 x(V i)
     have hv8:=(V i).toNat_lt
     have HNXT:Hid(BW(wr.setCell⟨g,k0+i,none⟩(.int .u8((x.toNat ^^^ (V i).toNat:Nat):Int)))g Eb.size(turnB V k0(i+1)E)):=by rw [←UInt8.toNat_xor];exact hbr.set hki(fun j _=>by rw [turnB_step,hx])
     have HKN:Hid(∀ v,SpK w(.cells #[.int .i64 m0,.int .i64 m1,.int .i64 m2,.int .i64 m3] 72)(wr.setCell⟨g,k0+i,none⟩v)):=fun v=>⟨hkr.b.setCell(Nat.le_of_lt HG.out)v,(set_blk _ _ _ _(by have:=HG.out;omega)).trans hkr.k⟩
     have HPI:Hid _:=HMP.out i h4
     have HCH:Hid(chg V(i+1)=(chg V i||V i!=0)):=rfl
     have hvz:(((V i).toNat:Int)!=0)=(V i!=0):=by
      by_cases q:V i=0
      ·rw [q];rfl
      ·have h1:(V i).toNat≠0:=fun e=>q(UInt8.toNat_inj.1 e)
       have h2:((V i).toNat:Int)≠0:=by omega
       rw [bne_iff_ne.2 h2,bne_iff_ne.2 q]
     clear hkr hbr hx
     generalize hch:chg V i=ch at *
     generalize V i=vi at *
     generalize mask i=mi at *
     cases ch
     all_goals
      go_wp2_with(go_at_call 21;refine(HPI.out _).mono ?_;rintro e w6⟨rfl,hw6⟩;obtain rfl:=hw6.symm)
      go_roundw
      case rel=>exact⟨i+1,by rw [HCH.out];simp,by go_num,by omega,by omega,HKN.out _,HNXT.out⟩
      case measure=>simp [intOf]<;>omega
    ·have HII:Hid(i=4∨k0+i=tz):=by show _∨_;omega
     obtain⟨L,hL⟩:∃ L,L=trn V k0 i E:=⟨_,rfl⟩
     have hLl:L.length=Eb.size:=by rw [hL,trn_len];exact HSZ.out.symm
     have hcb:(convert 73 9(.slice(some⟨g,0,none⟩)Eb.size cap)).run Tryz.prog wr=.ok(.string(ba L))wr:=by
      rw [←hLl]
      rw [←hLl] at hbr
      exact bw_text hbr(fun j hj=>by
       have hj':j<E.length:=by rw [←HSZ.out,←hLl];exact hj
       rw [turnB_at V k0 i hj']
       simp only [hL])
     obtain⟨LB,hLB⟩:∃ LB,LB=ba L:=⟨_,rfl⟩
     rw [←hLB] at hcb
     have hEl:=HSZ.out
     have hto:=HTO.out
     have HLZ:Hid(∀ W,Calls Tryz.prog 35 #[.string LB] W fun e w'=>∃ q,e=.returned(.tuple #[.pointer q,.int .i64(if chg V i then 6 else 0)])∧(chg V i=true→q=none)∧(chg V i=false→∃ m,q=some⟨m,0,none⟩)∧Below W.heap.size W w'):=fun W=>by
      rw [hLB]
      have hl:L.length≤maxLen:=by unfold maxLen;omega
      cases hch:chg V i with
      |true=>
       have:=load_none W L hl(by
        rw [hL,HE.out]
        rw [HE.out] at hEl
        refine load_trn tabular_is HI.out(by omega)big hi4(by omega)(fun q=>?_)(chg_yes hch)
        omega)
       refine this.mono ?_
       rintro e w'⟨h1,h2⟩
       exact⟨none,by simpa using h1,fun _=>rfl,(fun h=>by cases h),h2⟩
      |false=>
       have:=load_some W L hl tb(by
        rw [hL,trn_same(chg_no hch),HE.out]
        exact load_self tabular_is HI.out(by omega)big)
       refine this.mono ?_
       rintro e w'⟨m,c,h1,-,-,h2⟩
       exact⟨some⟨m,0,none⟩,by simpa using h1,(fun h=>by cases h),fun _=>⟨m,rfl⟩,h2⟩
     have HLS:Hid(∀ W,Calls Tryz.prog 35 #[.string(Eb.extract 0 k0)] W fun e w'=>e=.returned(.tuple #[.pointer none,.int .i64 6])∧Below W.heap.size W w'):=fun W=>by
      rw [HEB.out,ba_take]
      refine load_none W _(by unfold maxLen;simp;omega)?_
      rw [HE.out]
      rw [HE.out] at hEl
      exact load_cut tabular_is HI.out(by omega)big(by omega)
     have HLL:Hid(∀ W,Calls Tryz.prog 35 #[.string(Eb++⟨#[0]⟩)] W fun e w'=>e=.returned(.tuple #[.pointer none,.int .i64 6])∧Below W.heap.size W w'):=fun W=>by
      rw [HEB.out,show(⟨#[0]⟩:ByteArray)=ba [0] from rfl,ba_cat]
      refine load_none W _(by unfold maxLen;simp;omega)?_
      rw [HE.out]
      exact load_long tabular_is HI.out(by omega)big 0
     have a1:¬ 9223372036854775807<Eb.size+1:=by omega
     have hk0s:¬ (Eb.size:Int)<k0:=by omega
     have hk0d:¬ Eb.size<k0:=by omega
     clear hbr hL hLl hLB hEl hto hkr HMC HMP HVN
     have hcond:(i=4)∨(¬ i=4∧k0+i=tz):=by have:=HII.out;omega
     generalize chg V i=ch at *
     rcases hcond with h4|⟨h4,h5⟩
     all_goals
      first|(have h4I:¬ (i:Int)<4:=by omega)|(have h4I:(i:Int)<4:=by omega)
      first|(have h5I:¬ (k0:Int)+i<tz:=by omega)|skip
      clear h4
      go_upto_region 33 with(go_at_call 35;refine(HLZ.out _).mono ?_;rintro e wf⟨q,rfl,hq1,hq2,hbf⟩;have HKF:Hid _:=HKR.out.next hbf;have HQ1:Hid _:=hq1;have HQ2:Hid _:=hq2;clear hbf hq1 hq2)
      go_upto_region 34 with(go_at_call 35;refine(HLS.out _).mono ?_;rintro e wg⟨rfl,hbg⟩;have HKG:Hid _:=HKF.out.next hbg;clear hbg)
      go_upto_region 35 with(go_at_call 35;refine(HLL.out _).mono ?_;rintro e wh⟨rfl,hbh⟩;have HKH:Hid _:=HKG.out.next hbh;clear hbh)
      cases ch
      ·obtain⟨mq,rfl⟩:=HQ2.out rfl
       go_wp2
       go_ret
       exact⟨rfl,HKH.out.b⟩
      ·obtain rfl:=HQ1.out rfl
       go_wp2
       go_ret
       exact⟨rfl,HKH.out.b⟩
  ·have hksI:¬ (k0:Int)<Eb.size-4:=by omega
   obtain rfl:tz=Eb.size:=by rw [htz,if_neg hks]
   clear htz
   go_upto_region 24 with(fail)
   go_upto_region 25 with(fail)
   obtain⟨hbw,hbb⟩:=bw_new wd Eb HEB.out
   obtain⟨W0,hW0⟩:∃ W0,W0=Lib.bytesWorld wd 5 Eb:=⟨_,rfl⟩
   rw [←hW0] at hbw hbb ⊢
   have HBW:Hid(BW W0 wd.heap.size Eb.size(fun j=>E.getD j 0)):=hbw
   have HK0:Hid(SpK w(.cells #[.int .i64 m0,.int .i64 m1,.int .i64 m2,.int .i64 m3] 72)W0):=HKd.out.next hbb
   have HG:Hid(w.heap.size<wd.heap.size):=some_lt HKd.out.k
   obtain⟨g,hg⟩:∃ g,g=wd.heap.size:=⟨_,rfl⟩
   obtain⟨cap,hcap⟩:∃ cap,cap=grownCap wd Eb.size 0 5:=⟨_,rfl⟩
   rw [←hg] at HBW HG ⊢
   rw [←hcap]
   clear hW0 hbw hbb hcv hg hcap HKd
   obtain⟨mask,hmask⟩:∃ mask:Nat→Int,mask=fun i=>[m0,m1,m2,m3].getD i 0:=⟨_,rfl⟩
   obtain⟨V,hV⟩:∃ V:Nat→UInt8,V=fun i=>UInt8.ofNat(pkN(mask i)256):=⟨_,rfl⟩
   have HVN:Hid(∀ i,((V i).toNat:Nat)=pkN(mask i)256):=fun i=>by
    have:=pkN_lt(mask i)256(by omega)
    rw [hV];simp;omega
   have HMP:Hid(∀ i,i<4→∀ W,Calls Tryz.prog 21 #[.int .i64(mask i),.int .i64 256] W fun e w'=>e=.returned(.int .i64((V i).toNat:Nat))∧w'=W):=fun i hi W=>by
    rw [HVN.out i]
    have:=rm(mask i)(by
     rw [hmask]
     have:i=0∨i=1∨i=2∨i=3:=by omega
     rcases this with rfl|rfl|rfl|rfl<;>simp)
    exact kpick_any W(mask i)256 this.1 this.2(by omega)(by omega)
   have HMC:Hid(∀ W,SpK w(.cells #[.int .i64 m0,.int .i64 m1,.int .i64 m2,.int .i64 m3] 72)W→∀ i,i<4→W.cell?⟨w.heap.size,i,none⟩=some(.int .i64(mask i))):=fun W hW i hi=>by
    have hbx:=hW.k
    rw [hmask]
    simp only [World.cell?,hbx]
    have:i=0∨i=1∨i=2∨i=3:=by omega
    rcases this with rfl|rfl|rfl|rfl<;>simp [go_sem]
   clear hmask hV rm
   go_upto_region 27 with(fail)
   go_loopw [31,32,33](fun ch j _ wr=>∃ i:Nat,ch=.bool(chg V i)∧j=.int .i64 i∧i≤4∧k0+i≤Eb.size∧SpK w(.cells #[.int .i64 m0,.int .i64 m1,.int .i64 m2,.int .i64 m3] 72)wr∧BW wr g Eb.size(turnB V k0 i E))(fun _ j _ _=>4-(intOf j).toNat)
   case atStart=>exact⟨0,rfl,rfl,by omega,by have:=HTO.out;omega,HK0.out,HBW.out.c_0⟩
   case round=>
    obtain⟨i,rfl,rfl,hi4,hit,hkr,hbr⟩:=hrel
    have HKR:Hid(SpK w(.cells #[.int .i64 m0,.int .i64 m1,.int .i64 m2,.int .i64 m3] 72)wr):=hkr
    have HBR:Hid(BW wr g Eb.size(turnB V k0 i E)):=hbr
    by_cases hlt:i<4∧k0+i<Eb.size
    ·obtain⟨h4,h5⟩:=hlt
     have h4I:(i:Int)<4:=by omega
     have h5I:(k0:Int)+i<Eb.size:=by omega
     have hki:k0+i<Eb.size:=by have:=HTO.out;omega
     have d1:=HMC.out wr hkr i h4
     have d2:=hbr.c(k0+i)hki
     rw [turnB_new] at d2
     have d3:=hbr.f(k0+i)hki
     obtain⟨x,hx⟩:∃ x,x=E.getD(k0+i)0:=⟨_,rfl⟩
     rw [←hx] at d2
     have hxor:=bits_xor_u8 x(V i)
     have hv8:=(V i).toNat_lt
     have HNXT:Hid(BW(wr.setCell⟨g,k0+i,none⟩(.int .u8((x.toNat ^^^ (V i).toNat:Nat):Int)))g Eb.size(turnB V k0(i+1)E)):=by rw [←UInt8.toNat_xor];exact hbr.set hki(fun j _=>by rw [turnB_step,hx])
     have HKN:Hid(∀ v,SpK w(.cells #[.int .i64 m0,.int .i64 m1,.int .i64 m2,.int .i64 m3] 72)(wr.setCell⟨g,k0+i,none⟩v)):=fun v=>⟨hkr.b.setCell(Nat.le_of_lt HG.out)v,(set_blk _ _ _ _(by have:=HG.out;omega)).trans hkr.k⟩
     have HPI:Hid _:=HMP.out i h4
     have HCH:Hid(chg V(i+1)=(chg V i||V i!=0)):=rfl
     have hvz:(((V i).toNat:Int)!=0)=(V i!=0):=by
      by_cases q:V i=0
      ·rw [q];rfl
      ·have h1:(V i).toNat≠0:=fun e=>q(UInt8.toNat_inj.1 e)
       have h2:((V i).toNat:Int)≠0:=by omega
       rw [bne_iff_ne.2 h2,bne_iff_ne.2 q]
     clear hkr hbr hx
     generalize hch:chg V i=ch at *
     generalize V i=vi at *
     generalize mask i=mi at *
     cases ch
     all_goals
      go_wp2_with(go_at_call 21;refine(HPI.out _).mono ?_;rintro e w6⟨rfl,hw6⟩;obtain rfl:=hw6.symm)
      go_roundw
      case rel=>exact⟨i+1,by rw [HCH.out];simp,by go_num,by omega,by omega,HKN.out _,HNXT.out⟩
      case measure=>simp [intOf]<;>omega
    ·have HII:Hid(i=4∨k0+i=Eb.size):=by show _∨_;omega
     obtain⟨L,hL⟩:∃ L,L=trn V k0 i E:=⟨_,rfl⟩
     have hLl:L.length=Eb.size:=by rw [hL,trn_len];exact HSZ.out.symm
     have hcb:(convert 73 9(.slice(some⟨g,0,none⟩)Eb.size cap)).run Tryz.prog wr=.ok(.string(ba L))wr:=by
      rw [←hLl]
      rw [←hLl] at hbr
      exact bw_text hbr(fun j hj=>by
       have hj':j<E.length:=by rw [←HSZ.out,←hLl];exact hj
       rw [turnB_at V k0 i hj']
       simp only [hL])
     obtain⟨LB,hLB⟩:∃ LB,LB=ba L:=⟨_,rfl⟩
     rw [←hLB] at hcb
     have hEl:=HSZ.out
     have hto:=HTO.out
     have HLZ:Hid(∀ W,Calls Tryz.prog 35 #[.string LB] W fun e w'=>∃ q,e=.returned(.tuple #[.pointer q,.int .i64(if chg V i then 6 else 0)])∧(chg V i=true→q=none)∧(chg V i=false→∃ m,q=some⟨m,0,none⟩)∧Below W.heap.size W w'):=fun W=>by
      rw [hLB]
      have hl:L.length≤maxLen:=by unfold maxLen;omega
      cases hch:chg V i with
      |true=>
       have:=load_none W L hl(by
        rw [hL,HE.out]
        rw [HE.out] at hEl
        refine load_trn tabular_is HI.out(by omega)big hi4(by omega)(fun q=>?_)(chg_yes hch)
        omega)
       refine this.mono ?_
       rintro e w'⟨h1,h2⟩
       exact⟨none,by simpa using h1,fun _=>rfl,(fun h=>by cases h),h2⟩
      |false=>
       have:=load_some W L hl tb(by
        rw [hL,trn_same(chg_no hch),HE.out]
        exact load_self tabular_is HI.out(by omega)big)
       refine this.mono ?_
       rintro e w'⟨m,c,h1,-,-,h2⟩
       exact⟨some⟨m,0,none⟩,by simpa using h1,(fun h=>by cases h),fun _=>⟨m,rfl⟩,h2⟩
     have HLS:Hid(∀ W,Calls Tryz.prog 35 #[.string(Eb.extract 0 k0)] W fun e w'=>e=.returned(.tuple #[.pointer none,.int .i64 6])∧Below W.heap.size W w'):=fun W=>by
      rw [HEB.out,ba_take]
      refine load_none W _(by unfold maxLen;simp;omega)?_
      rw [HE.out]
      rw [HE.out] at hEl
      exact load_cut tabular_is HI.out(by omega)big(by omega)
     have HLL:Hid(∀ W,Calls Tryz.prog 35 #[.string(Eb++⟨#[0]⟩)] W fun e w'=>e=.returned(.tuple #[.pointer none,.int .i64 6])∧Below W.heap.size W w'):=fun W=>by
      rw [HEB.out,show(⟨#[0]⟩:ByteArray)=ba [0] from rfl,ba_cat]
      refine load_none W _(by unfold maxLen;simp;omega)?_
      rw [HE.out]
      exact load_long tabular_is HI.out(by omega)big 0
     have a1:¬ 9223372036854775807<Eb.size+1:=by omega
     have hk0s:¬ (Eb.size:Int)<k0:=by omega
     have hk0d:¬ Eb.size<k0:=by omega
     clear hbr hL hLl hLB hEl hto hkr HMC HMP HVN
     have hcond:(i=4)∨(¬ i=4∧k0+i=Eb.size):=by have:=HII.out;omega
     generalize chg V i=ch at *
     rcases hcond with h4|⟨h4,h5⟩
     all_goals
      first|(have h4I:¬ (i:Int)<4:=by omega)|(have h4I:(i:Int)<4:=by omega)
      first|(have h5I:¬ (k0:Int)+i<Eb.size:=by omega)|skip
      clear h4
      go_upto_region 33 with(go_at_call 35;refine(HLZ.out _).mono ?_;rintro e wf⟨q,rfl,hq1,hq2,hbf⟩;have HKF:Hid _:=HKR.out.next hbf;have HQ1:Hid _:=hq1;have HQ2:Hid _:=hq2;clear hbf hq1 hq2)
      go_upto_region 34 with(go_at_call 35;refine(HLS.out _).mono ?_;rintro e wg⟨rfl,hbg⟩;have HKG:Hid _:=HKF.out.next hbg;clear hbg)
      go_upto_region 35 with(go_at_call 35;refine(HLL.out _).mono ?_;rintro e wh⟨rfl,hbh⟩;have HKH:Hid _:=HKG.out.next hbh;clear hbh)
      cases ch
      ·obtain⟨mq,rfl⟩:=HQ2.out rfl
       go_wp2
       go_ret
       exact⟨rfl,HKH.out.b⟩
      ·obtain rfl:=HQ1.out rfl
       go_wp2
       go_ret
       exact⟨rfl,HKH.out.b⟩
end Go.Proofs.YtbjabpodkaokjaaGreatDoor

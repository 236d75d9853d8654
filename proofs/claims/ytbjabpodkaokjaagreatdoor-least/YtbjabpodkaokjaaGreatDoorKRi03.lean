import Derived.Test.YtbjabpodkaokjaaGreatDoorDRi01
import Derived.Test.YtbjabpodkaokjaaGreatDoorJ07
import Derived.Test.YtbjabpodkaokjaaGreatDoorJ11
import Derived.Test.YtbjabpodkaokjaaGreatDoorKRi02
import Derived.Test.YtbjabpodkaokjaaGreatDoorKRi01
import Derived.Test.YtbjabpodkaokjaaGreatDoorJ34
import Derived.BigGuard
import Derived.BigQuiet
import Derived.Test.YtbjabpodkaokjaaGreatDoorS09
import Derived.Test.YtbjabpodkaokjaaGreatDoorTie
import Derived.Test.YtbjabpodkaokjaaGreatDoorCards
import Derived.SevenTiedAt
set_option linter.unusedVariables false
set_option linter.unusedSimpArgs false
set_option maxHeartbeats 4000000
set_option maxRecDepth 100000
namespace Go.Proofs.YtbjabpodkaokjaaGreatDoor
open Go.RowKit
def cntA (n:Nat) (l:List UInt8):Nat:=l.foldl (fun n c=>if n≤c.toNat then c.toNat+1 else n) n
theorem cntA_eq:∀(l:List UInt8) (n m:Nat),cntC n l=some m→cntA n l=m
 |[],n,m,h=>by simp[cntC] at h;simp[cntA,h]
 |c::t,n,m,h=>by
  simp only[cntC] at h
  split at h
  ·simp at h
  ·have:=cntA_eq t _ m h
   have e:max n (c.toNat+1)=if n≤c.toNat then c.toNat+1 else n:=by split<;>omega
   rw[e] at this
   exact this
theorem cntA_snoc (n:Nat) (l:List UInt8) (c:UInt8):cntA n (l++[c])=if cntA n l≤c.toNat then c.toNat+1 else cntA n l:=by
 unfold cntA
 rw[List.foldl_append]
 rfl
theorem right_yes (w:World) (t:Tb) (c:Nat) (va vn:Value) (h:TabIn w t va vn) (hok:TbOk t c) :
  Calls Tryz.prog 22 #[tv t va vn] w fun e w'=>e=.returned (.bool true)∧Below w.heap.size w w':=by
 obtain⟨ha,hn⟩:=h
 have oc:=hok.c256
 obtain⟨o1,o2,o3,o4,o5,o6,o7⟩:=hok
 obtain⟨a,ca,rfl⟩:=ha.form
 obtain⟨us,hul,hu,hr⟩:=hn
 obtain⟨f,b,st,cls,acc,next⟩:=t
 simp only at *
 obtain⟨an,cn,rfl⟩:=hu.form
 obtain⟨na,hna⟩:∃ na,na=acc.length:=⟨_,rfl⟩
 obtain⟨nn,hnn⟩:∃ nn,nn=us.length:=⟨_,rfl⟩
 rw[←hna] at o1 o2 o3 o5 o7 ⊢
 rw[←hnn] at hul hu ⊢
 obtain⟨wx,hwx⟩:∃ wx,wx=w.alloc (.cells #[.bool f,.bool b,.int .i64 st,.string (ba cls),.slice a na ca,.slice an nn cn] 33):=⟨_,rfl⟩
 have HB:Hid (Below w.heap.size w wx):=by rw[hwx];exact(Below.refl _ _).alloc (Nat.le_refl _) _
 have HW:Hid (wx=w.alloc (.cells #[.bool f,.bool b,.int .i64 st,.string (ba cls),.slice a na ca,.slice an nn cn] 33)):=hwx
 have hU:Hid (RowE id wx (.slice an nn cn) us):=hu.below HB.out
 have hRw:Hid (∀ j (h1:j<us.length) (h2:j<next.length),RowE eI wx us[j] next[j]):=fun j h1 h2=>(hr j h1 h2).below HB.out
 have HUL:Hid (nn=next.length):=hul
 have HNN:Hid (nn=us.length):=hnn
 have HC6:Hid (cls.length=256):=oc.2
 have hbz:(ba cls).size=256:=by rw[ba_size];exact oc.2
 have HCC:Hid (cntA 0 cls=c):=by
  refine cntA_eq _ _ _ ?_
  unfold cntR at o6
  rw[if_pos hbz] at o6
  exact o6
 have HR7:Hid (∀ r∈next,r.length=c∧∀ z∈r,0≤z∧z<(na:Int)):=o7
 have hc256:c≤256:=by omega
 have hblk:wx.heap[w.heap.size]?=some (.cells #[.bool f,.bool b,.int .i64 st,.string (ba cls),.slice a na ca,.slice an nn cn] 33):=by rw[hwx];exact heap_alloc_new w _
 obtain⟨p0,p1,p2,p3,p4,p5⟩:=box6 hblk
 have h1:¬(na:Int)<1:=by omega
 have h3':((nn:Int) != na)=false:=by simp;omega
 have h4:¬ st<0:=by omega
 have h5:¬(na:Int)≤st:=by omega
 clear hna ha hu hr hul hnn hwx p0 p1 hblk o1 o3 o4 o5 o6 o7 oc
 go_enter Tryz.func22,Tryz.ntmps22
 go_wp2
 rw[←HW.out]
 go_loop [4,5] (fun top i=>∃ k x:Nat,i=.int .i64 k∧top=.int .i64 x∧k≤256∧x≤256∧x=cntA 0 (cls.take k)) (fun _ i=>256-(intOf i).toNat)
 case atStart=>exact⟨0,0,rfl,rfl,by omega,by omega,rfl⟩
 case round=>
  obtain⟨k,x,rfl,rfl,hk,hx,hxe⟩:=hrel
  have HX:Hid (x=cntA 0 (cls.take k)):=hxe
  clear hxe
  by_cases hlt:k<256
  ·have hltI:(k:Int)<256:=by omega
   have hlt1:k<cls.length:=by have:=HC6.out;omega
   obtain⟨bb,hb⟩:∃ b,b=cls[k]:=⟨_,rfl⟩
   have hbx:∀ h:k<(ba cls).size,((ba cls)[k]'h).toNat=bb.toNat:=fun h=>by rw[hb];rfl
   have hb8:=bb.toNat_lt
   have HC:Hid (cntA 0 (cls.take (k+1))=if x≤bb.toNat then bb.toNat+1 else x):=by
    show _=_
    rw[List.take_succ_eq_append_getElem hlt1,cntA_snoc,←hb,HX.out]
   clear hb
   by_cases hge:(x:Int)≤bb.toNat
   ·have HC2:Hid (cntA 0 (cls.take (k+1))=bb.toNat+1):=by show _=_;rw[HC.out,if_pos (by omega)]
    go_wp2
    go_round
    case rel=>exact⟨k+1,bb.toNat+1,by go_num,by go_num,by omega,by omega,HC2.out.symm⟩
    case measure=>simp[intOf]<;>omega
   ·have HC2:Hid (cntA 0 (cls.take (k+1))=x):=by show _=_;rw[HC.out,if_neg (by omega)]
    go_wp2
    go_round
    case rel=>exact⟨k+1,x,by go_num,rfl,by omega,by omega,HC2.out.symm⟩
    case measure=>simp[intOf]<;>omega
  ·have hkI:¬(k:Int)<256:=by omega
   have hxc:x=c:=by
    rw[HX.out,List.take_of_length_le (by have:=HC6.out;omega)];exact HCC.out
   subst hxc
   obtain⟨bn,on,cn',hvn,hcell⟩:=hU.out.nonnil (by have:=HNN.out;simp at h3';omega)
   injection hvn with e1 e2 e3
   subst e1
   have HC:Hid (∀ j (hj:j<us.length),wx.cell? ⟨bn,on+j,none⟩=some us[j]):=hcell
   clear hcell e2 e3 hU HX
   go_wp2
   go_loop [6,7] (fun i _=>∃ k:Nat,i=.int .i64 k∧k≤na) (fun i _=>na-(intOf i).toNat)
   case atStart=>exact⟨0,rfl,Nat.zero_le _⟩
   case round=>
    obtain⟨i,rfl,hi⟩:=hrel
    by_cases hilt:i<na
    ·have hnE:nn=na:=by simp at h3';omega
     have hlt1:i<us.length:=by have:=HNN.out;omega
     have hlt2:i<next.length:=by have:=HUL.out;omega
     have hltI:(i:Int)<na:=by omega
     have hltN:(i:Int)<nn:=by omega
     have hck:=HC.out i hlt1
     have hrk:=hRw.out i hlt1 hlt2
     have hrr:=HR7.out _ (List.getElem_mem hlt2)
     obtain⟨u,hu⟩:∃ u,u=us[i]:=⟨_,rfl⟩
     obtain⟨r,hre⟩:∃ r,r=next[i]:=⟨_,rfl⟩
     rw[←hu] at hck hrk
     rw[←hre] at hrk hrr
     obtain⟨au,cu,hform⟩:=hrk.form
     subst hform
     have HRK:Hid (RowE eI wx (.slice au r.length cu) r):=hrk
     have HRL:Hid (r.length=x∧∀ z∈r,0≤z∧z<(na:Int)):=hrr
     have hrb:((r.length:Int) != x)=false:=by simp;omega
     clear hu hre hrk hrr hnE
     go_wp2
     go_loop [7] (fun q=>∃ j:Nat,q=.int .i64 j∧j≤x) (fun q=>x-(intOf q).toNat)
     case atStart=>exact⟨0,rfl,Nat.zero_le _⟩
     case round=>
      obtain⟨j,rfl,hj⟩:=hrel
      by_cases hjl:j<x
      ·have hjlI:(j:Int)<x:=by omega
       have hjr:j<r.length:=by have:=HRL.out.1;omega
       have hjrI:(j:Int)<r.length:=by omega
       obtain⟨ab,ob,cb,hf2,hcz⟩:=HRK.out.nonnil (by omega)
       injection hf2 with e1 e2 e3
       subst e1
       have hcj:=hcz j hjr
       have hzz:=HRL.out.2 _ (List.getElem_mem hjr)
       obtain⟨z,hz⟩:∃ z,z=r[j]:=⟨_,rfl⟩
       rw[←hz] at hcj hzz
       obtain⟨z1,z2⟩:=hzz
       have z1d:decide (z<0)=false:=by simpa using z1
       have z2d:¬(na:Int)≤z:=by omega
       clear hz hcz e2 e3
       go_wp2
       go_round
       case rel=>exact⟨j+1,by go_num,by omega⟩
       case measure=>simp[intOf]<;>omega
      ·have hjlI:¬(j:Int)<x:=by omega
       go_wp2
       go_round
       case rel=>exact⟨i+1,by go_num,by omega⟩
       case measure=>simp[intOf]<;>omega
    ·have hiI:¬(i:Int)<na:=by omega
     go_wp2
     go_ret
     exact⟨rfl,HB.out⟩
theorem compM_least (s:List UInt8) (l:Nat) (h1:1≤l) (h2:l≤200):(∃ y,compM s (l:Int)=.inl (3,y))∨compM s (l:Int)=.inl (4,0)∨∃ tb n k N,compM s (l:Int)=.inr tb∧LsF tb n k N l:=by
 unfold compM
 rw[if_neg (by omega)]
 split
 ·exact .inr (.inl rfl)
 ·split
  ·exact .inl ⟨_,rfl⟩
  ·split
   ·exact .inr (.inl rfl)
   ·rename_i p _ _ _
    unfold compT
    rw[Int.toNat_natCast]
    cases hs:searchM p l with
    |none=>exact .inr (.inl rfl)
    |some t=>
     obtain⟨n,k,hf⟩:=least_facts h1 h2 hs
     exact .inr (.inr ⟨_,n,k,_,rfl,hf⟩)
def dfr (f g:Nat→Nat):Nat→Bool
 |0=>false
 |z+1=>dfr f g z||f z != g z
theorem dfr_yes {f g:Nat→Nat}{i:Nat} (h:f i≠g i):∀ {z:Nat},i<z→dfr f g z=true
 |0,hz=>by omega
 |z+1,hz=>by
  simp only[dfr,Bool.or_eq_true,bne_iff_ne]
  by_cases q:i=z
  ·subst q;exact .inr h
  ·exact .inl (dfr_yes h (by omega))
abbrev ToldC:Prop:=∀(w:World) (t:Tb) (c:Nat) (va vn:Value),TabIn w t va vn→TbOk t c→Calls Tryz.prog 24 #[tv t va vn] w fun e w'=>∃ A cap gs M,e=.returned (.slice (some ⟨A,0,none⟩) t.acc.length cap)∧MX (w.heap.size+1) (w.alloc (.cells #[.bool t.front,.bool t.back,.int .i64 t.start,.string (ba t.cls),va,vn] 33)) w' t.acc.length A gs M∧(∀ a b,a<t.acc.length→b<t.acc.length→(t.acc.getD a false != t.acc.getD b false)=true→M a b=true)∧Clo t.acc.length c (fun i d=>((t.next.getD i []).getD d 0).toNat) M∧Below w.heap.size w w'
theorem least_no (w:World) (s:ByteArray) (limit:Int) (a:Nat) (x y:Int) (hx:x=3∨x=4) (hpl:Calls Tryz.prog 20 #[] w fun e w'=>e=.returned (.bool true)∧Below w.heap.size w w') (hpk:∀ W,Calls Tryz.prog 21 #[.int .i64 limit,.int .i64 200] W fun e w'=>e=.returned (.int .i64 (a:Int))∧w'=W) (ha:a≤199) (hc:∀ W,Below w.heap.size w W→Calls Tryz.prog 14 #[.string s,.int .i64 (1+(a:Int))] W fun e w'=>e=.returned (.tuple #[.pointer none,.int .i64 x,.int .i64 y])∧Below W.heap.size W w') :
  Calls Tryz.prog 6 #[.string s,.int .i64 limit] w fun e w'=>e=.returned (.bool true)∧Below w.heap.size w w':=by
 have HPL:Hid (Calls Tryz.prog 20 #[] w fun e w'=>e=.returned (.bool true)∧Below w.heap.size w w'):=hpl
 have HPK:Hid _:=hpk
 have HC:Hid _:=hc
 clear hpl hpk hc
 rcases hx with rfl|rfl
 all_goals
  go_enter Tryz.func6,Tryz.ntmps6
  go_wp2_with (first|(go_at_call 14;refine(HC.out _ HB1.out).mono ?_;rintro e w2 ⟨rfl,hb2⟩;have HB2:Hid (Below w.heap.size w w2):=HB1.out.trans (hb2.mono HB1.out.size);clear hb2)|(go_at_call 21;refine(HPK.out _).mono ?_;rintro e w6 ⟨rfl,hw6⟩;obtain rfl:=hw6.symm)|(go_at_call 20;refine HPL.out.mono ?_;rintro e w1 ⟨rfl,hb1⟩;have HB1:Hid (Below w.heap.size w w1):=hb1;clear hb1))
  go_ret
  exact⟨rfl,HB2.out⟩
theorem least_yes (hTold:ToldC) (w:World) (s:ByteArray) (limit:Int) (a:Nat) (tb:Tb) (n k:Nat) (N:List (List Nat)) (hF:LsF tb n k N (1+a)) (hpl:Calls Tryz.prog 20 #[] w fun e w'=>e=.returned (.bool true)∧Below w.heap.size w w') (hpk:∀ W,Calls Tryz.prog 21 #[.int .i64 limit,.int .i64 200] W fun e w'=>e=.returned (.int .i64 (a:Int))∧w'=W) (ha:a≤199) (hc:∀ W,Below w.heap.size w W→Calls Tryz.prog 14 #[.string s,.int .i64 (1+(a:Int))] W fun e w'=>∃ m c,e=.returned (.tuple #[.pointer (some ⟨m,0,none⟩),.int .i64 0,.int .i64 0])∧Mch w' m tb c∧Below W.heap.size W w') :
  Calls Tryz.prog 6 #[.string s,.int .i64 limit] w fun e w'=>e=.returned (.bool true)∧Below w.heap.size w w':=by
 have HPL:Hid (Calls Tryz.prog 20 #[] w fun e w'=>e=.returned (.bool true)∧Below w.heap.size w w'):=hpl
 have HPK:Hid _:=hpk
 have HC:Hid (∀ W,Below w.heap.size w W→Calls Tryz.prog 14 #[.string s,.int .i64 (1+(a:Int))] W fun e w'=>∃ m c,e=.returned (.tuple #[.pointer (some ⟨m,0,none⟩),.int .i64 0,.int .i64 0])∧Mch w' m tb c∧Below W.heap.size W w'):=hc
 have HF:Hid (LsF tb n k N (1+a)):=hF
 have HTD:Hid ToldC:=hTold
 clear hpl hpk hc hF hTold
 go_enter Tryz.func6,Tryz.ntmps6
 go_upto_region 8 with(first|(go_at_call 14;refine(HC.out _ HB1.out).mono ?_;rintro e w2 ⟨m,c,rfl,hm2,hb2⟩;have HM2:Hid (Mch w2 m tb c):=hm2;have HB2:Hid (Below w.heap.size w w2):=HB1.out.trans (hb2.mono HB1.out.size);clear hb2 hm2)|(go_at_call 21;refine(HPK.out _).mono ?_;rintro e w6 ⟨rfl,hw6⟩;obtain rfl:=hw6.symm)|(go_at_call 20;refine HPL.out.mono ?_;rintro e w1 ⟨rfl,hb1⟩;have HB1:Hid (Below w.heap.size w w1):=hb1;clear hb1))
 go_upto_region 9 with(go_at_call 16;refine(mtable_any _ m tb c HM2.out).mono ?_;rintro e w3 ⟨tA,tB,gs0,rfl,htn,hb3⟩;have HT3:Hid (TabIn w3 tb (.slice (some ⟨tA,0,none⟩) tb.acc.length tb.acc.length) (.slice (some ⟨tB,0,none⟩) tb.next.length tb.next.length)):=htn.tab;have HB3:Hid (Below w.heap.size w w3):=HB2.out.trans (hb3.mono HB2.out.size);clear hb3 htn)
 have hF:=HF.out
 have hal:=hF.al
 have hnl:tb.next.length=n:=by rw[hF.ok.n];exact hal
 have ha1:1≤n:=by have:=hF.ok.a1;omega
 have hn2:=hF.nl
 have hk2:=hF.ok.c256.1
 rw[hal,hnl] at HT3 ⊢
 obtain⟨W4,hW4⟩:∃ W4,W4=w3.alloc (.cells #[.bool tb.front,.bool tb.back,.int .i64 tb.start,.string (ba tb.cls),.slice (some ⟨tA,0,none⟩) n n,.slice (some ⟨tB,0,none⟩) n n] 33):=⟨_,rfl⟩
 rw[←hW4]
 have hb4:Below w3.heap.size w3 W4:=by rw[hW4];exact(Below.refl _ _).alloc (Nat.le_refl _) _
 have HT4:Hid (TabIn W4 tb (.slice (some ⟨tA,0,none⟩) n n) (.slice (some ⟨tB,0,none⟩) n n)):=HT3.out.below hb4
 have HB4:Hid (Below w.heap.size w W4):=HB3.out.trans (hb4.mono HB3.out.size)
 have HX4:Hid (∀ W,Below W4.heap.size W4 W→W.heap[w3.heap.size]?=some (.cells #[.bool tb.front,.bool tb.back,.int .i64 tb.start,.string (ba tb.cls),.slice (some ⟨tA,0,none⟩) n n,.slice (some ⟨tB,0,none⟩) n n] 33)):=fun W hb=>by
  rw[hb.block _ (by rw[hW4];simp),hW4]
  exact heap_alloc_new w3 _
 obtain⟨p0,p1,p2,p3,p4,p5⟩:=box6 (HX4.out W4 (Below.refl _ _))
 have HRY:Hid (∀ W,TabIn W tb (.slice (some ⟨tA,0,none⟩) n n) (.slice (some ⟨tB,0,none⟩) n n)→Calls Tryz.prog 22 #[tv tb (.slice (some ⟨tA,0,none⟩) n n) (.slice (some ⟨tB,0,none⟩) n n)] W fun e w'=>e=.returned (.bool true)∧Below W.heap.size W w'):=fun W h=>right_yes W tb k _ _ h HF.out.ok
 have HNY:Hid (∀ W,TabIn W tb (.slice (some ⟨tA,0,none⟩) n n) (.slice (some ⟨tB,0,none⟩) n n)→Calls Tryz.prog 23 #[tv tb (.slice (some ⟨tA,0,none⟩) n n) (.slice (some ⟨tB,0,none⟩) n n)] W fun e w'=>e=.returned (.bool true)∧Below W.heap.size W w'):=fun W h=>numbered_yes W tb N k _ _ h HF.out.ok HF.out.st HF.out.nx HF.out.nu
 have hgt1:decide (1+(a:Int)<n)=false:=by simp;omega
 have hgt2:¬ 1+(a:Int)<n:=by omega
 clear hW4 hb4 HT3 HB3 HM2 HB2 hF hal hnl
 go_upto_region 10 with(go_at_call 22;refine(HRY.out _ HT4.out).mono ?_;rintro e w5 ⟨rfl,hb5⟩;have HT5:Hid (TabIn w5 tb (.slice (some ⟨tA,0,none⟩) n n) (.slice (some ⟨tB,0,none⟩) n n)):=HT4.out.below hb5;have HL5:Hid (Below W4.heap.size W4 w5):=hb5;obtain⟨q0,q1,q2,q3,q4,q5⟩:=box6 (HX4.out w5 hb5);clear hb5)
 clear p0 p1 p2 p3 p4 p5
 go_upto_region 13 with(go_at_call 23;refine(HNY.out _ HT5.out).mono ?_;rintro e w6 ⟨rfl,hb6⟩;have HT6:Hid (TabIn w6 tb (.slice (some ⟨tA,0,none⟩) n n) (.slice (some ⟨tB,0,none⟩) n n)):=HT5.out.below hb6;have HL6:Hid (Below W4.heap.size W4 w6):=HL5.out.trans (hb6.mono HL5.out.size);obtain⟨x0,x1,x2,x3,x4,x5⟩:=box6 (HX4.out w6 HL6.out);clear hb6)
 clear q0 q1 q2 q3 q4 q5
 have HTC:Hid (Calls Tryz.prog 24 #[tv tb (.slice (some ⟨tA,0,none⟩) n n) (.slice (some ⟨tB,0,none⟩) n n)] w6 fun e w'=>∃ A cap gs M W0,e=.returned (.slice (some ⟨A,0,none⟩) n cap)∧MX (w6.heap.size+1) W0 w' n A gs M∧(∀ i j,i<n→j<i→M i j=true)∧Below w6.heap.size w6 w'):=by
  refine(HTD.out w6 tb k _ _ HT6.out HF.out.ok).mono ?_
  rintro e w' ⟨A,cap,gs,M,rfl,h1,h2,h3,h4⟩
  have hal:=HF.out.al
  rw[hal] at h1 h2 h3 ⊢
  exact⟨A,cap,gs,M,_,rfl,h1,HF.out.tl M h3 h2,h4⟩
 clear HTD
 go_upto_region 14 with(go_at_call 24;refine HTC.out.mono ?_;rintro e w7 ⟨A,cap,gs,M,W0,rfl,hmx,htl,hb7⟩;have HMX:Hid (MX (w6.heap.size+1) W0 w7 n A gs M):=hmx;have HTL:Hid (∀ i j,i<n→j<i→M i j=true):=htl;have HT7:Hid (TabIn w7 tb (.slice (some ⟨tA,0,none⟩) n n) (.slice (some ⟨tB,0,none⟩) n n)):=HT6.out.below hb7;have HL7:Hid (Below W4.heap.size W4 w7):=HL6.out.trans (hb7.mono HL6.out.size);clear hmx htl hb7)
 clear x0 x1 x2 x3 x4 x5 HTC
 go_upto_region 15 with(fail)
 go_loop [15,16] (fun i _=>∃ x:Nat,i=.int .i64 x∧x≤n) (fun i _=>n-(intOf i).toNat)
 case atStart=>exact⟨0,rfl,Nat.zero_le _⟩
 case round=>
  obtain⟨x,rfl,hx⟩:=hrel
  by_cases hxl:x<n
  ·have hxI:(x:Int)<n:=by omega
   have hxg:x<gs.length:=by rw[HMX.out.gl];exact hxl
   have o1:=HMX.out.oc x hxg
   simp only[rowV] at o1
   have HNW:Hid (∀ j,j<n→w7.cell? ⟨gs[x],j,none⟩=some (.bool (M x j))):=fun j hj=>(HMX.out.nw x hxg).c j hj
   obtain⟨gx,hgx⟩:∃ gx,gx=gs[x]:=⟨_,rfl⟩
   rw[←hgx] at o1 HNW
   clear hgx
   go_upto_region 18 with(fail)
   go_loop [16] (fun j=>∃ y:Nat,j=.int .i64 y∧y≤x) (fun j=>x-(intOf j).toNat)
   case atStart=>exact⟨0,rfl,Nat.zero_le _⟩
   case round=>
    obtain⟨y,rfl,hy⟩:=hrel
    by_cases hyl:y<x
    ·have hyI:(y:Int)<x:=by omega
     have d1:=HNW.out y (by omega)
     rw[HTL.out x y hxl hyl] at d1
     have hyn:(y:Int)<n:=by omega
     go_wp2
     go_round
     case rel=>exact⟨y+1,by go_num,by omega⟩
     case measure=>simp[intOf]<;>omega
    ·have hyI:¬(y:Int)<x:=by omega
     go_wp2
     go_round
     case rel=>exact⟨x+1,by go_num,by omega⟩
     case measure=>simp[intOf]<;>omega
  ·have hxI:¬(x:Int)<n:=by omega
   clear HMX HTL
   obtain⟨nxt,hnxt⟩:∃ nxt:Nat→Nat→Nat,nxt=fun i d=>((tb.next.getD i []).getD d 0).toNat:=⟨_,rfl⟩
   have HCL:Hid (∀ c d,c<k→d<c→∃ i,i<n∧nxt i c≠nxt i d):=by rw[hnxt];exact HF.out.cl
   have HRX:Hid (∀ W,Below w7.heap.size w7 W→∀ i,i<n→∃ ra rc,W.cell? ⟨tB,i,none⟩=some (.slice ra k rc)∧(0<k→∃ b3 o3,ra=some ⟨b3,o3,none⟩∧∀ z,z<k→W.cell? ⟨b3,o3+z,none⟩=some (.int .i64 (nxt i z:Int))∧nxt i z<n)):=fun W hW i hi=>by
    obtain⟨-,⟨us,hul,hu,hrow⟩⟩:=HT7.out
    have hok:=HF.out.ok
    have hal:=HF.out.al
    have hnl:=hok.n
    have hi1:i<us.length:=by omega
    have hi2:i<tb.next.length:=by omega
    obtain⟨b0,o0,c0,hf0,hcell⟩:=hu.nonnil (by omega)
    injection hf0 with e1 e2 e3
    injection e1 with e1
    injection e1 with e4 e5 e6
    subst e4
    subst e5
    have h1:=cell_below hW (hcell i hi1)
    rw[Nat.zero_add] at h1
    simp only[id] at h1
    have h2:=(hrow i hi1 hi2).below hW
    obtain⟨h3,h4⟩:=hok.r tb.next[i] (List.getElem_mem hi2)
    obtain⟨ra,rc,he⟩:=h2.form
    rw[h3] at he
    refine⟨ra,rc,by rw[h1,he],fun hc=>?_⟩
    obtain⟨b3,o3,x3,hf3,hc3⟩:=h2.nonnil (by omega)
    rw[he] at hf3
    injection hf3 with f1 _ _
    refine⟨b3,o3,f1,fun z hz=>?_⟩
    have hz':z<tb.next[i].length:=by omega
    have h5:=h4 _ (List.getElem_mem hz')
    have h6:nxt i z=(tb.next[i][z]).toNat:=by rw[hnxt];simp[hi2,hz']
    rw[hc3 z hz',h6]
    exact⟨by show some (eI _)=_;rw[Int.toNat_of_nonneg h5.1],by omega⟩
   clear hnxt
   go_upto_region 23 with(fail)
   go_loopw [17,18,19,20] (fun c _ _ _ wr=>∃ x:Nat,c=.int .i64 x∧x≤k∧Below w7.heap.size w7 wr) (fun c _ _ _ _=>k-(intOf c).toNat)
   case atStart=>exact⟨0,rfl,Nat.zero_le _,Below.refl _ _⟩
   case round=>
    obtain⟨x,rfl,hx,hbl⟩:=hrel
    have HBL:Hid (Below w7.heap.size w7 wr):=hbl
    obtain⟨-,-,-,-,-,p5⟩:=box6 (HX4.out wr (HL7.out.trans (hbl.mono HL7.out.size)))
    obtain⟨ra,rc,d0,-⟩:=HRX.out wr hbl 0 (by omega)
    clear hbl
    by_cases hxl:x<k
    ·have hxI:(x:Int)<k:=by omega
     rename World=>wa
     go_upto_region 26 with(fail)
     clear d0 p5
     go_loopw [18,19,20] (fun d _ _ wr=>∃ y:Nat,d=.int .i64 y∧y≤x∧Below w7.heap.size w7 wr) (fun d _ _ _=>x-(intOf d).toNat)
     case atStart=>exact⟨0,rfl,Nat.zero_le _,HBL.out⟩
     case round=>
      obtain⟨y,rfl,hy,hbl⟩:=hrel
      have HBB:Hid (Below w7.heap.size w7 wr):=hbl
      clear hbl
      by_cases hyl:y<x
      ·have hyI:(y:Int)<x:=by omega
       obtain⟨i0,hi0,hne0⟩:=HCL.out x y hxl hyl
       rename World=>wb
       go_upto_region 30 with(fail)
       go_loopw [19,20] (fun df i wr=>∃ z:Nat,df=.bool (dfr (fun i=>nxt i x) (fun i=>nxt i y) z)∧i=.int .i64 z∧z≤n∧Below w7.heap.size w7 wr) (fun _ i _=>n-(intOf i).toNat)
       case atStart=>exact⟨0,rfl,rfl,Nat.zero_le _,HBB.out⟩
       case round=>
        obtain⟨z,rfl,rfl,hz,hbl⟩:=hrel
        have HBC:Hid (Below w7.heap.size w7 wr):=hbl
        obtain⟨-,-,-,-,-,p5⟩:=box6 (HX4.out wr (HL7.out.trans (hbl.mono HL7.out.size)))
        by_cases hzl:z<n
        ·have hzI:(z:Int)<n:=by omega
         obtain⟨ra,rc,d1,hx3⟩:=HRX.out wr hbl z hzl
         obtain⟨b3,o3,rfl,hc3⟩:=hx3 (by omega)
         obtain⟨d2,hu⟩:=hc3 x hxl
         obtain⟨d3,hv⟩:=hc3 y (by omega)
         have hyk:(y:Int)<k:=by omega
         have HDF:Hid (dfr (fun i=>nxt i x) (fun i=>nxt i y) (z+1)=(dfr (fun i=>nxt i x) (fun i=>nxt i y) z||nxt z x != nxt z y)):=rfl
         obtain⟨u,hue⟩:∃ u,u=nxt z x:=⟨_,rfl⟩
         obtain⟨v,hve⟩:∃ v,v=nxt z y:=⟨_,rfl⟩
         rw[←hue] at d2 hu HDF
         rw[←hve] at d3 hv HDF
         have hub:((u:Int) != v)=(u != v):=by
          by_cases q:u=v
          ·subst q;simp
          ·have h2:(u:Int)≠v:=by omega
           rw[bne_iff_ne.2 h2,bne_iff_ne.2 q]
         clear hbl hx3 hc3 hue hve
         generalize hdf:dfr (fun i=>nxt i x) (fun i=>nxt i y) z=df at *
         cases df
         all_goals
          go_wp2
          go_quiet (fail)
          go_wp2
          go_roundw
          case rel=>exact⟨z+1,by rw[HDF.out];simp,by go_num,by omega,belowQ HBC.out nq⟩
          case measure=>simp[intOf]<;>omega
        ·have hzI:¬(z:Int)<n:=by omega
         have hdt:=dfr_yes (f:=fun i=>nxt i x) (g:=fun i=>nxt i y) hne0 (show i0<z by omega)
         rw[hdt]
         clear hbl
         go_wp2
         go_roundw
         case rel=>exact⟨y+1,by go_num,by omega,HBC.out⟩
         case measure=>simp[intOf]<;>omega
      ·have hyI:¬(y:Int)<x:=by omega
       go_wp2
       go_roundw
       case rel=>exact⟨x+1,by go_num,by omega,HBB.out⟩
       case measure=>simp[intOf]<;>omega
    ·have hxI:¬(x:Int)<k:=by omega
     go_wp2
     go_ret
     exact⟨rfl,HB4.out.trans ((HL7.out.trans (HBL.out.mono HL7.out.size)).mono HB4.out.size)⟩
theorem least_any (hTold:ToldC) (w:World) (s:ByteArray) (limit:Int) (hS:Sx.Tabs w) (hT:TabZ w) (hs:s.size≤maxLen) (l1:-9223372036854775808≤limit) (l2:limit≤9223372036854775807) :
  Calls Tryz.prog 6 #[.string s,.int .i64 limit] w fun e w'=>e=.returned (.bool true)∧Below w.heap.size w w':=by
 obtain⟨a,ha⟩:∃ a,a=pkN limit 200:=⟨_,rfl⟩
 have ha2:a≤199:=by have:=pkN_lt limit 200 (by omega);omega
 have hpk:∀ W,Calls Tryz.prog 21 #[.int .i64 limit,.int .i64 200] W fun e w'=>e=.returned (.int .i64 (a:Int))∧w'=W:=fun W=>by
  rw[ha];exact kpick_any W limit 200 l1 l2 (by omega) (by omega)
 have hc:∀ W,Below w.heap.size w W→Calls Tryz.prog 14 #[.string s,.int .i64 (1+(a:Int))] W fun e w'=>CompRes W w' (compM s.data.toList ((1+a:Nat):Int)) e∧Below W.heap.size W w':=fun W hW=>by
  have:=comp_any W s (1+(a:Int)) (tabs_at hS hW) (tabz_at hT hW) hs
  rw[show((1+a:Nat):Int)=1+(a:Int) by omega]
  exact this
 rcases compM_least s.data.toList (1+a) (by omega) (by omega) with⟨y,h⟩|h|⟨tb,n,k,N,h,hF⟩
 ·rw[h] at hc
  exact least_no w s limit a 3 y (.inl rfl) (plain_yes w hS hT) hpk ha2 hc
 ·rw[h] at hc
  exact least_no w s limit a 4 0 (.inr rfl) (plain_yes w hS hT) hpk ha2 hc
 ·rw[h] at hc
  refine least_yes hTold w s limit a tb n k N hF (plain_yes w hS hT) hpk ha2 (fun W hW=>(hc W hW).mono ?_)
  rintro e w' ⟨⟨m,c,h1,h2,-⟩,h3⟩
  exact⟨m,c,h1,h2 w' (Hi.refl _ _),h3⟩
open Go.ChangeShapes Go.WideShapes Go.ChangeAt Go.WideMaps Go.WideElems Go.RowKit
theorem least_door (os:Os) (args:Array Value):laidMetH Tryz.prog Rows.leastRow.laid ((World.doorLaid Tryz.prog 400 os).forCall (fun _ _=>0) ⟨#[],args,[]⟩).memory:=by
 rw[MakeChecks.laidMetH_plain _ _ _ (by kernel_rfl)]
 exact laidMet_of_run' 8 (by kernel_rfl) (by kernel_rfl)
theorem least_lifted (hTold:ToldC) (os:Os) (started:os.Started) (H:Type) (enc:TypeId×Value→H) :
  ReturnsInHanded {} Tryz.checked os 6 .any (fun w args=>(Rows.leastSpec.pre enc Tryz.prog Tryz.f6 [] false w args∧laidMetH Tryz.prog Rows.leastRow.laid w)∧sizedMet enc Tryz.prog Tryz.f6 (OpenSpec.ofChange Rows.leastSpec) false w args)
   (Rows.leastSpec.post enc Tryz.prog Tryz.f6 false true false false):=by
 refine returnsInHanded_of_change_and (C:=Tryz.checked) (X:=fun w _=>laidMetH Tryz.prog Rows.leastRow.laid w) (fun _ _ _ hh h=>h.of_heap hh) own5 started (by kernel_rfl) Tryz.func6
  (ChangeSpec.witness_shaped (enc:=enc) (C:=Tryz.checked) (os:=os) (X:=fun w _=>laidMetH Tryz.prog Rows.leastRow.laid w) false (World.doorLaid Tryz.prog 400 os) #[.string ⟨#[]⟩,.int .i64 0] 8 rfl (World.shaped_of_RefB (by kernel_rfl) (by kernel_rfl)) (by kernel_rfl) (by kernel_rfl) (by kernel_rfl) (least_door os _)) ?_
 intro W base args ds gs before hval0 hW _ _ hL _
 have hval:∀(j:Nat) t v,Tryz.f6.params[j]?=some t→args[j]?=some v→Value.okWide Tryz.prog W .any base t v:=hval0
 have hW':=hW
 obtain⟨p,q,hA0,hV,rfl,hfz,hnd⟩:=hW
 have hA:DataW.TrodAll enc Tryz.prog W 0 (fun _=>true) true Tryz.f6.params.toList args.toList ds p:=hA0
 rw[Tryz.params6] at hA hval
 obtain⟨v0,v1,d0,d1,p0,p1,rfl,rfl,rfl,h0,h1⟩:=trodAll_two hA
 obtain⟨rfl,rfl⟩:=trodVars_none hV
 obtain⟨s,rfl,rfl,rfl,hs⟩:=Go.ChangeMaps.open_string Tryz.underlying9 (hval 0 9 v0 rfl rfl) h0
 obtain⟨l,rfl,rfl,rfl,hl⟩:=open_int Tryz.underlying3 (hval 1 3 v1 rfl rfl) h1
 obtain⟨l1,l2⟩:=wf_rg hl
 obtain⟨hT,hZ⟩:=spoilt_laid hL
 clear hA0 hval0
 refine(least_any hTold W s l hT hZ hs l1 l2).mono fun e W' ⟨he,bel⟩=>?_
 subst he
 exact⟨_,rfl,_,_,_,[],_,[],hW',trodAll_mk1 (shut_bool Tryz.underlying4 _),trodAll_mk2 (Go.ChangeMaps.shut_string Tryz.underlying9 hs) (shut_int Tryz.underlying3 hl),rfl,bel.frame _,fun h=>by cases h⟩
theorem least_said (hTold:ToldC):Rows.LeastSaid:=
 OpenClaim.holds_of_wide 6 Tryz.f6 rfl rfl rfl rfl rfl rfl rfl ⟨rfl,rfl,rfl,rfl,rfl⟩ rfl rfl rfl rfl rfl (by kernel_rfl) Tryz.func6 (by kernel_rfl)
  (of_decide_eq_true (by kernel_rfl)) (by unfold Func.isWrapper;first|(rw[if_pos (by decide +kernel)];kernel_rfl)|(rw[if_neg (by decide +kernel)];exact⟨rfl,rfl⟩))
  (fun os started H enc _=>least_lifted hTold os started H enc)
end Go.Proofs.YtbjabpodkaokjaaGreatDoor

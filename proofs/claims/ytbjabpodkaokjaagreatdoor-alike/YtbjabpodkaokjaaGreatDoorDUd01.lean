import Derived.Test.YtbjabpodkaokjaaGreatDoorJ01
import Derived.WalkKit
import Derived.Below
import Derived.RowKit
import Derived.KernelRfl
import Derived.Test.YtbjabpodkaokjaaGreatDoorJ02
import Derived.Deep.AppendLies
import Derived.Laws.BitsLemmas
import Derived.Laws.Bits64
import Derived.Test.YtbjabpodkaokjaaGreatDoorJ03
import Derived.BigRegion
import Derived.BigQuiet
import Derived.Maps.Own
import Derived.Deep.RegionHeld3
import Derived.Deep.RegionLaw
import Derived.Deep.QuietTactic
import Derived.DeepKeys4
import Derived.OwnWalk
import Derived.Lib.LazyBuf
import Derived.Great.BuildSlice
import Derived.Test.YtbjabpodkaokjaaGreatDoorJ04
import Derived.Test.YtbjabpodkaokjaaGreatDoorJ05
import Derived.Test.YtbjabpodkaokjaaGreatDoorJ06
import Derived.Shelf.Spec.TrailingZeros
import Derived.Test.YtbjabpodkaokjaaGreatDoorJ07
import Derived.Maps.AppendAt
import Derived.Lib.AppendStr
import Derived.RangeFuncNested
import Derived.RangeFuncBound
import Derived.RangeFuncCalls
import Derived.RangeFuncLeaves
import Derived.RangeFuncFrom
import Derived.Shelf.Abstract
import Derived.Shelf.RegionOpen
import Derived.OwnWalkIn
import Derived.TacticsInMore
import Derived.LoopNIn
import Derived.LoopIn
import Derived.Lib.BufferRead
import Derived.Test.YtbjabpodkaokjaaGreatDoorJ08
import Derived.Test.YtbjabpodkaokjaaGreatDoorJ09
import Derived.Deep.CutRange
import Derived.Test.YtbjabpodkaokjaaGreatDoorJ10
import Derived.Test.YtbjabpodkaokjaaGreatDoorJ11
import Derived.Test.YtbjabpodkaokjaaGreatDoorJ12
import GoSem.Claim
import GoSem.ClaimJoined
import GoSem.ClaimMapViews
import Derived.WalkSpells
import Derived.WalkLawsBesides
import Derived.Deep.Light
import Derived.Test.YtbjabpodkaokjaaGreatDoorJ13
import Derived.Deep.RegionWith
import Derived.Test.YtbjabpodkaokjaaGreatDoorJ14
import Derived.Test.YtbjabpodkaokjaaGreatDoorJ15
import Derived.Deep.Draws
import Derived.Test.YtbjabpodkaokjaaGreatDoorJ16
import Derived.Test.YtbjabpodkaokjaaGreatDoorJ17
import Derived.Test.YtbjabpodkaokjaaGreatDoorJ18
import Derived.Test.YtbjabpodkaokjaaGreatDoorJ19
import Derived.Test.YtbjabpodkaokjaaGreatDoorJ20
import Derived.Test.YtbjabpodkaokjaaGreatDoorJ21
import Derived.Test.YtbjabpodkaokjaaGreatDoorJ22
import Derived.Test.YtbjabpodkaokjaaGreatDoorJ23
import Derived.Test.YtbjabpodkaokjaaGreatDoorJ24
import Derived.Test.YtbjabpodkaokjaaGreatDoorJ25
import Derived.Test.YtbjabpodkaokjaaGreatDoorJ26
import Derived.Test.YtbjabpodkaokjaaGreatDoorJ27
import Derived.Sort.CutIn
import Derived.Test.YtbjabpodkaokjaaGreatDoorJ28
import Derived.Great.Walk
import Derived.Test.YtbjabpodkaokjaaGreatDoorJ29
import Derived.Lib.BytesEntry
import Derived.Test.YtbjabpodkaokjaaGreatDoorJ30
import Derived.Test.YtbjabpodkaokjaaGreatDoorJ31
import Derived.Test.YtbjabpodkaokjaaGreatDoorJ32
import Derived.Test.YtbjabpodkaokjaaGreatDoorJ33
import Derived.Test.YtbjabpodkaokjaaGreatDoorJ34
import Derived.Test.YtbjabpodkaokjaaGreatDoorJ35
import Derived.Test.YtbjabpodkaokjaaGreatDoorJ36
import Derived.Test.YtbjabpodkaokjaaGreatDoorS01
import Derived.ProofKit
import Derived.LaidMore
import Derived.OpenShut
import Derived.Stop.Joined
import Derived.Deep.Strs
import Derived.Lib.LaidTab
import Derived.Test.YtbjabpodkaokjaaGreatDoorS02
import Derived.BigGuard
import Derived.Test.YtbjabpodkaokjaaGreatDoorS03
import Derived.Test.YtbjabpodkaokjaaGreatDoorS04
import Derived.Test.YtbjabpodkaokjaaGreatDoorS05
import Derived.Test.YtbjabpodkaokjaaGreatDoorS06
import Derived.Lib.ConvBytes
import Derived.Test.YtbjabpodkaokjaaGreatDoorS07
import Derived.Test.YtbjabpodkaokjaaGreatDoorS08
import Derived.Test.YtbjabpodkaokjaaGreatDoorS09
import Derived.SevenTiedAt
import Derived.ChangeSlices
import Derived.Carry
set_option linter.unusedVariables false
set_option linter.unusedSimpArgs false
set_option maxHeartbeats 4000000
set_option maxRecDepth 100000
namespace Go.Proofs.YtbjabpodkaokjaaGreatDoor
section
variable {P:Program} (w:World)
end
theorem Kp.now {ρ:Nat→Nat}{q lim:Nat}{w:World}{F:World→Prop} (h:Kp ρ q lim w F):F w:=h w (Off.refl _ _ _ _)
open Go.RowKit
theorem Wst.drew {g:Nat}{x w:World} (h:Wst g x w):Wst g x w.drew:=⟨h.bl.drew,h.kp⟩
open Go.RowKit Go.Shelf
theorem Stb.on {g:Nat}{w w':World}{P:World→Prop} (h:Stb g w P) (hb:Below g w w'):Stb g w' P:=fun w2 h2=>h w2 (hb.trans h2)
section
variable {w1 wr w2:World}{g tb:Nat}{big:Bool}{l l':List UInt8}{f bk:Bool}{st:Int}{cls:List UInt8}{va vn:Value}{acc:List Bool}{us:List Value}{rows:List (List Int)}
end
open Go.RowKit
section
variable {w wr w2:World}{f b:Bool}{st:Int}{cls:List UInt8}{n tT tA tB lo:Nat}{acc:List Bool}{next:List (List Int)}{gs:List Nat}{ka k:Nat}
end
open Go.RowKit
theorem TabN.below {lo:Nat}{w w':World}{t:Tb}{tA tB:Nat}{gs:List Nat} (h:TabN lo w t tA tB gs) (hb:Below w.heap.size w w'):TabN lo w' t tA tB gs:=by
 have hz:=hb.size
 obtain⟨o1,o2,o3,o4,o5,o6⟩:=h.o
 exact⟨h.na.of_block (hb.block _ o4),h.nb.of_block (hb.block _ o5),h.gl,fun j hj=>⟨(h.rows j hj).1.of_block (hb.block _ (h.rows j hj).2.2),(h.rows j hj).2.1,by have:=(h.rows j hj).2.2;omega⟩,h.mono,⟨o1,o2,o3,by omega,by omega,o6⟩⟩
open Go.RowKit Go.Shelf
theorem mtable_any (w:World) (m:Nat) (t:Tb) (c:Nat) (h:Mch w m t c) :
  Calls Tryz.prog 16 #[.pointer (some ⟨m,0,none⟩)] w fun e w'=>∃ tA tB gs,e=.returned (.tuple #[tv t (.slice (some ⟨tA,0,none⟩) t.acc.length t.acc.length) (.slice (some ⟨tB,0,none⟩) t.next.length t.next.length),.int .i64 0])∧TabN w.heap.size w' t tA tB gs∧Below w.heap.size w w':=by
 obtain⟨g,h1,h2,h3⟩:=h
 have hB:Below w.heap.size w (w.alloc (.cells tc0 33)):=(Below.refl _ _).alloc (Nat.le_refl _) _
 have hl:=table_any (w.alloc (.cells tc0 33)) g t c (h2.below hB) h3
 have h1':=cell_below hB h1
 have HB:Hid (Below w.heap.size w (w.alloc (.cells tc0 33))):=hB
 rw[World.size_alloc] at hl
 clear h2 h3 hB
 go_enter Tryz.func16,Tryz.ntmps16
 go_wp2_with (go_at_call 50;refine hl.mono ?_;rintro e w1 ⟨tA,tB,gs,rfl,hn,hb⟩;obtain⟨r0,r1,r2,r3,r4,r5⟩:=box6 ((hb.block w.heap.size (by omega)).trans (heap_alloc_new w _));have rf:=boxfz ((hb.block w.heap.size (by omega)).trans (heap_alloc_new w (.cells tc0 33)));have HN:Hid (TabN (w.heap.size+1) w1 t tA tB gs):=hn;have HB1:Hid (Below w.heap.size w w1):=HB.out.trans (hb.mono (by omega));clear hb hn)
 refine bodyPost_ret (v:=.tuple #[tv t (.slice (some ⟨tA,0,none⟩) t.acc.length t.acc.length) (.slice (some ⟨tB,0,none⟩) t.next.length t.next.length),.int .i64 0]) (by simp[results,Tryz.results16,go_sem,r0,r1,r2,r3,r4,r5]) rfl ?_
 refine⟨tA,tB,gs,rfl,?_,?_⟩
 ·exact((((((HN.out.set (by omega) _ _).set (by omega) _ _).set (by omega) _ _).set (by omega) _ _).set (by omega) _ _).set (by omega) _ _).weak (by omega)
 ·exact(by(repeat first|(with_reducible refine Below.setCell ?_ (by first|exact Nat.le_refl _|(simp;done)|(simp;omega)) _)|(with_reducible refine Below.alloc ?_ (by first|omega|(simp;done)|(simp;omega)) _)|(with_reducible refine Below.drew ?_));exact HB1.out)
theorem sameTable_eq (w:World) (t:Tb) (va vn va' vn':Value) (h:TabIn w t va vn) (h':TabIn w t va' vn') (hs:Small t) :
  Calls Tryz.prog 26 #[tv t va vn,tv t va' vn'] w fun e w'=>e=.returned (.bool true)∧Below w.heap.size w w':=by
 obtain⟨f,b,st,cls,acc,next⟩:=t
 obtain⟨ha,⟨us,hul,hu,hr⟩⟩:=h
 obtain⟨ha',⟨us',hul',hu',hr'⟩⟩:=h'
 obtain⟨s1,s2,s3,s4⟩:=hs
 simp only at *
 obtain⟨a,ca,rfl⟩:=ha.form
 obtain⟨a',ca',rfl⟩:=ha'.form
 obtain⟨an,cn,rfl⟩:=hu.form
 obtain⟨an',cn',rfl⟩:=hu'.form
 rw[hul] at hu ⊢
 rw[hul'] at hu' ⊢
 obtain⟨n,hn⟩:∃ n,n=next.length:=⟨_,rfl⟩
 rw[←hn] at hu hu' hul hul' s2 ⊢
 obtain⟨m,hm⟩:∃ m,m=acc.length:=⟨_,rfl⟩
 rw[←hm] at s1 ⊢
 have HM:Hid (m=acc.length):=hm
 have HN:Hid (n=next.length∧us.length=n∧us'.length=n):=⟨hn,hul,hul'⟩
 obtain⟨w1,hw1⟩:∃ w1,w1=(w.alloc (.cells #[.bool f,.bool b,.int .i64 st,.string (ba cls),.slice a m ca,.slice an n cn] 33)).alloc (.cells #[.bool f,.bool b,.int .i64 st,.string (ba cls),.slice a' m ca',.slice an' n cn'] 33):=⟨_,rfl⟩
 have hB1:Below w.heap.size w w1:=by rw[hw1];exact((Below.refl _ _).alloc (Nat.le_refl _) _).alloc (by simp) _
 have hz1:w1.heap.size=w.heap.size+2:=by rw[hw1];simp
 have HX1:Hid (∀ w',Below w1.heap.size w1 w'→w'.heap[w.heap.size]?=some (.cells #[.bool f,.bool b,.int .i64 st,.string (ba cls),.slice a m ca,.slice an n cn] 33)):=fun w' hb=>by
  rw[hb.block _ (by omega),hw1]
  exact(Below.heap_alloc (w.alloc _) _ _ (by simp)).trans (heap_alloc_new w _)
 have HX2:Hid (∀ w',Below w1.heap.size w1 w'→w'.heap[w.heap.size+1]?=some (.cells #[.bool f,.bool b,.int .i64 st,.string (ba cls),.slice a' m ca',.slice an' n cn'] 33)):=fun w' hb=>by
  rw[hb.block _ (by omega),hw1]
  have:=heap_alloc_new (w.alloc (.cells #[.bool f,.bool b,.int .i64 st,.string (ba cls),.slice a m ca,.slice an n cn] 33)) (.cells #[.bool f,.bool b,.int .i64 st,.string (ba cls),.slice a' m ca',.slice an' n cn'] 33)
  rw[World.size_alloc] at this
  exact this
 have HW1:Hid (w1=(w.alloc (.cells #[.bool f,.bool b,.int .i64 st,.string (ba cls),.slice a m ca,.slice an n cn] 33)).alloc (.cells #[.bool f,.bool b,.int .i64 st,.string (ba cls),.slice a' m ca',.slice an' n cn'] 33)):=hw1
 have HST:Hid (∀ w',Below w1.heap.size w1 w'→Below w.heap.size w w'):=fun w' hb=>hB1.trans (hb.mono (by omega))
 have HU:Hid (RowE id w (.slice an n cn) us):=hu
 have HU':Hid (RowE id w (.slice an' n cn') us'):=hu'
 have HR:Hid (∀ j (h1:j<us.length) (h2:j<next.length),RowE eI w us[j] next[j]):=hr
 have HR':Hid (∀ j (h1:j<us'.length) (h2:j<next.length),RowE eI w us'[j] next[j]):=hr'
 have HS3:Hid (∀ r∈next,r.length≤maxLen):=s3
 unfold maxLen at s1 s2
 have HA:Hid (RowE eB w (.slice a m ca) acc):=by show RowE _ _ _ _;rw[hm];exact ha
 have HA':Hid (RowE eB w (.slice a' m ca') acc):=by show RowE _ _ _ _;rw[hm];exact ha'
 clear hw1 hB1 hu hu' hr hr' ha ha' hul hul' hn s3 hm
 have hbeq:(ba cls).toList=cls:=ByteArray.toList_mk cls
 go_enter Tryz.func26,Tryz.ntmps26
 go_wp2
 rw[←HW1.out]
 go_loopw [5] (fun i wr=>∃ k:Nat,i=.int .i64 k∧k≤m∧Below w1.heap.size w1 wr) (fun i _=>m-(intOf i).toNat)
 case atStart=>exact⟨0,rfl,Nat.zero_le _,Below.refl _ _⟩
 case round=>
  obtain⟨k,rfl,hk,hbl⟩:=hrel
  have HBL:Hid (Below w1.heap.size w1 wr):=hbl
  obtain⟨t0,t1,t2,t3,p4,t5⟩:=box6 (HX1.out wr hbl)
  obtain⟨t0',t1',t2',t3',q4,t5'⟩:=box6 (HX2.out wr hbl)
  clear t0 t1 t2 t3 t5 t0' t1' t2' t3' t5'
  by_cases hlt:k<m
  ·have hltI:(k:Int)<m:=by omega
   have hlt1:k<acc.length:=by have:=HM.out;omega
   have hbw:=HST.out wr hbl
   obtain⟨b1,o1,x1,hform,hcell⟩:=(HA.out.below hbw).nonnil (by omega)
   injection hform with e1 e2 e3
   subst e1
   obtain⟨b2,o2,x2,hform',hcell'⟩:=(HA'.out.below hbw).nonnil (by omega)
   injection hform' with e1' e2' e3'
   subst e1'
   have d1:=hcell k hlt1
   have d2:=hcell' k hlt1
   obtain⟨z,hz⟩:∃ z,z=acc[k]:=⟨_,rfl⟩
   rw[←hz] at d1 d2
   clear hcell hcell' e2 e3 e2' e3' hz hbl hbw
   cases z
   all_goals
    go_wp2
    go_quiet (fail)
    go_wp2
    go_roundw
    case rel=>exact⟨k+1,by go_num,by omega,belowQ HBL.out nq⟩
    case measure=>simp[intOf]<;>omega
  ·have hkI:¬(k:Int)<m:=by omega
   clear hbl
   go_wp2
   clear p4 q4 hkI hlt hk
   rename World=>wa
   have HBA:Hid (Below w1.heap.size w1 wa):=HBL.out
   clear HBL
   go_loopw [6,7] (fun i _ wr=>∃ k:Nat,i=.int .i64 k∧k≤n∧Below w1.heap.size w1 wr) (fun i _ _=>n-(intOf i).toNat)
   case atStart=>exact⟨0,rfl,Nat.zero_le _,HBA.out⟩
   case round=>
    obtain⟨k,rfl,hk,hbl⟩:=hrel
    have HBL:Hid (Below w1.heap.size w1 wr):=hbl
    obtain⟨t0,t1,t2,t3,t4,p5⟩:=box6 (HX1.out wr hbl)
    obtain⟨t0',t1',t2',t3',t4',q5⟩:=box6 (HX2.out wr hbl)
    clear t0 t1 t2 t3 t4 t0' t1' t2' t3' t4'
    by_cases hlt:k<n
    ·have hltI:(k:Int)<n:=by omega
     have hl1:k<us.length:=by have:=HN.out;omega
     have hl2:k<us'.length:=by have:=HN.out;omega
     have hl3:k<next.length:=by have:=HN.out;omega
     have hbw:=HST.out wr hbl
     obtain⟨b1,o1,x1,hform,hcell⟩:=(HU.out.below hbw).nonnil (by omega)
     injection hform with e1 e2 e3
     subst e1
     obtain⟨b2,o2,x2,hform',hcell'⟩:=(HU'.out.below hbw).nonnil (by omega)
     injection hform' with e1' e2' e3'
     subst e1'
     have d1:=hcell k hl1
     have d2:=hcell' k hl2
     have r1:=HR.out k hl1 hl3
     have r2:=HR'.out k hl2 hl3
     have hsm:=HS3.out next[k] (List.getElem_mem hl3)
     obtain⟨u1,hu1⟩:∃ u1,u1=us[k]:=⟨_,rfl⟩
     obtain⟨u2,hu2⟩:∃ u2,u2=us'[k]:=⟨_,rfl⟩
     obtain⟨r,hr⟩:∃ r,r=next[k]:=⟨_,rfl⟩
     rw[←hu1] at d1 r1
     rw[←hu2] at d2 r2
     rw[←hr] at r1 r2 hsm
     simp only[id] at d1 d2
     obtain⟨ra,rc,rfl⟩:=r1.form
     obtain⟨ra',rc',rfl⟩:=r2.form
     obtain⟨l,hl⟩:∃ l,l=r.length:=⟨_,rfl⟩
     rw[←hl] at d1 d2 r1 r2 hsm
     unfold maxLen at hsm
     have HL:Hid (l=r.length):=hl
     have HR1:Hid (RowE eI w (.slice ra l rc) r):=r1
     have HR2:Hid (RowE eI w (.slice ra' l rc') r):=r2
     have HD:Hid (∀ W,Below wr.heap.size wr W→W.cell? ⟨w.heap.size,5,none⟩=some (.slice (some ⟨b1,o1,none⟩) n cn)∧W.cell? ⟨w.heap.size+1,5,none⟩=some (.slice (some ⟨b2,o2,none⟩) n cn')∧W.cell? ⟨b1,o1+k,none⟩=some (.slice ra l rc)∧W.cell? ⟨b2,o2+k,none⟩=some (.slice ra' l rc')):=fun W hb=>⟨cell_below hb p5,cell_below hb q5,cell_below hb d1,cell_below hb d2⟩
     clear hcell hcell' e2 e3 e2' e3' hu1 hu2 hr hbl hbw r1 r2 hl hl1 hl2 hl3 hlt
     go_wp2
     go_quiet (fail)
     go_wp2
     clear p5 q5 d1 d2
     rename World=>wo
     have HBO:Hid (Below w1.heap.size w1 (wo.drewN nq)):=belowQ HBL.out nq
     have HD2:Hid (∀ W,Below wo.heap.size (wo.drewN nq) W→Below wo.heap.size wo W):=fun W hb=>(belowQ (Below.refl _ _) nq).trans hb
     have hzo:(wo.drewN nq).heap.size=wo.heap.size:=rfl
     have HZ1:Hid (w1.heap.size≤wo.heap.size):=HBL.out.size
     clear HBL
     go_loopw [7] (fun j wr=>∃ i:Nat,j=.int .i64 i∧i≤l∧Below wo.heap.size (wo.drewN nq) wr) (fun j _=>l-(intOf j).toNat)
     case atStart=>exact⟨0,rfl,Nat.zero_le _,Below.refl _ _⟩
     case round=>
      obtain⟨i,rfl,hi,hbi⟩:=hrel
      have HBI:Hid (Below wo.heap.size (wo.drewN nq) wr):=hbi
      have hbw:=HST.out wr (HBO.out.trans (hbi.mono HZ1.out))
      obtain⟨p5,q5,d1,d2⟩:=HD.out wr (HD2.out wr hbi)
      by_cases hlt:i<l
      ·have hltJ:(i:Int)<l:=by omega
       have hl1:i<r.length:=by have:=HL.out;omega
       obtain⟨b3,o3,x3,hform,hcell⟩:=(HR1.out.below hbw).nonnil (by omega)
       injection hform with e1 e2 e3
       subst e1
       obtain⟨b4,o4,x4,hform',hcell'⟩:=(HR2.out.below hbw).nonnil (by omega)
       injection hform' with e1' e2' e3'
       subst e1'
       have f1:=hcell i hl1
       have f2:=hcell' i hl1
       obtain⟨z,hz⟩:∃ z,z=r[i]:=⟨_,rfl⟩
       rw[←hz] at f1 f2
       clear hcell hcell' e2 e3 e2' e3' hz hbi hbw hl1
       go_wp2
       go_quiet (fail)
       go_wp2
       go_roundw
       case rel=>exact⟨i+1,by go_num,by omega,belowQ HBI.out _⟩
       case measure=>simp[intOf]<;>omega
      ·have hkJ:¬(i:Int)<l:=by omega
       clear hbi hbw
       go_wp2
       go_roundw
       case rel=>exact⟨k+1,by go_num,by omega,HBO.out.trans (HBI.out.mono HZ1.out)⟩
       case measure=>simp[intOf]<;>omega
    ·have hkI:¬(k:Int)<n:=by omega
     clear hbl
     go_wp2
     go_ret
     exact⟨rfl,HST.out _ HBL.out⟩
end Go.Proofs.YtbjabpodkaokjaaGreatDoor
namespace Go.Proofs.YtbjabpodkaokjaaGreatDoor.Sx
def Md.to (m:Md) (k:Int):Md:={m with M:=k}
def Md.byteItem (m:Md) (v:Int):Md:=
 if 0≤m.Low then(if v<m.Low then m.to 16 else {m with Low:=-1,M:=9})
 else {m with Value:=v,M:=8}
def Md.cls (m:Md) (c:Int):Md:=
 if c==94&&m.M==6 then m.to 7
 else if c==92 then {m with Class:=true,M:=3}
 else if c==93&&(m.M==8||m.M==9) then {m with Class:=false,M:=2}
 else if c==45&&m.M==8 then {m with Low:=m.Value,M:=10}
 else if c==91||c==93||c==94||c==45 then m.to 16
 else m.byteItem c
open Go.RowKit
theorem RdAt.drew {w:World}{b:Nat}{s:ByteArray}{k:Nat}{d e:Int} (h:RdAt w b s k d e):RdAt w.drew b s k d e:=⟨h.c0,h.c1,h.c2,h.c3,h.fz,h.lt⟩
theorem RdAt.below {w w':World}{B b:Nat}{s:ByteArray}{k:Nat}{d e:Int} (h:RdAt w b s k d e) (hb:Below B w w') (hB:b<B):RdAt w' b s k d e:=
 ⟨(hb.cell hB).trans h.c0,(hb.cell hB).trans h.c1,(hb.cell hB).trans h.c2,(hb.cell hB).trans h.c3,fun o=>(hb.frozen (p:=⟨b,o,none⟩) hB).trans (h.fz o),Nat.lt_of_lt_of_le h.lt hb.size⟩
theorem ByteRes.mk {w w':World}{b:Nat}{s:ByteArray}{d x:Int}{e:Ending}{R:Res Nat} (h:e=.returned (.tuple #[.int .u8 R.val0,.bool R.isOk])) (hv:R.val0<256) (g:StTo w w' b s R.rest d x):ByteRes w w' b s d x e R:=by
 cases R with
 |ok v r=>exact⟨h,hv,g⟩
 |bad r=>exact⟨0,h,g⟩
open Go
theorem Grew.drew {w w1:World}{v v1:Value} (h:Grew w w1 v v1):Grew w w1.drew v v1:=⟨⟨h.g.os,h.g.tape,h.g.output,h.g.size,h.g.block⟩,h.o⟩
theorem Grew.below {w w1 w2:World}{v v1:Value} (h:Grew w w1 v v1) (b:Go.RowKit.Below w1.heap.size w1 w2):Grew w w2 v v1:=
 h.trans ⟨⟨b.os,b.tape,b.output,b.size,fun k hk _=>b.block k hk⟩,.inl rfl⟩
theorem buf_below {w w':World}{base:Nat}{v:Value}{bs:List UInt8} (h:Buf w base v bs) (hb:Below w.heap.size w w'):Buf w' base v bs:=by
 refine World.ownsRow.kept h (row:=none) ⟨hb.os,hb.tape,hb.output,hb.size,fun k hk _=>hb.block k hk⟩ ?_
 cases e:v.ownBlock with
 |none=>exact .inl rfl
 |some k=>exact .inr (by simp)
theorem Keeps.drew {x w:World} (h:Keeps x w):Keeps x w.drew:=⟨h.size,h.block⟩
theorem Keeps.below {x w w':World} (h:Keeps x w) (hb:Below w.heap.size w w'):Keeps x w':=h.trans ⟨hb.size,fun g hg _=>hb.block g hg⟩
theorem Out.below {base:Nat}{x w w':World}{v:Value}{bs:List UInt8} (h:Out base x w v bs) (hb:base≤w.heap.size) (hw:Below w.heap.size w w'):Out base x w' v bs:=⟨buf_below h.buf hw,h.bl.trans (hw.mono hb),h.kp.below hw⟩
end Go.Proofs.YtbjabpodkaokjaaGreatDoor.Sx
namespace Go.Proofs.YtbjabpodkaokjaaGreatDoor
open Sx (Prt Cnt)
section
variable {α:Type} [DecidableEq α]
end
open Sx (Prt Cnt)
open Go.RowKit
section
variable {S:Nat}{wS:World}{fb n:Nat}{W W':World}{v:Value}{met:List (List UInt8)}{f:Nat→Value}
end
open Go.RowKit
section
variable {α β:Type} [DecidableEq α] [DecidableEq β]
theorem nodup_sub:∀ {E L:List β},E.Nodup→(∀ x∈E,x∈L)→E.length≤L.length
 |[],L,_,_=>by simp
 |a::E,L,hd,hs=>by
  have h1:a∈L:=hs a (by simp)
  have h2:=List.nodup_cons.1 hd
  have:=nodup_sub (L:=L.erase a) h2.2 (fun x hx=>by
   have hne:x≠a:=fun e=>h2.1 (e▸hx)
   exact(List.mem_erase_of_ne hne).2 (hs x (by simp[hx])))
  have h3:=List.length_erase_of_mem h1
  have h4:0<L.length:=List.length_pos_of_mem h1
  simp only[List.length_cons];omega
theorem card_inj {xs:List α} (f:α→β) (h:(metL [] xs).length≤(metL [] (xs.map f)).length) {a b:α} (ha:a∈xs) (hb:b∈xs) (e:f a=f b):a=b:=by
 rcases Decidable.em (a=b) with q|q
 ·exact q
 ·exfalso
  have hD:(metL [] xs).Nodup:=metL_nodup List.nodup_nil xs
  have hE:(metL [] (xs.map f)).Nodup:=metL_nodup List.nodup_nil _
  have haD:a∈metL [] xs:=mem_metL.2 (.inr ha)
  have hbD:b∈metL [] xs:=mem_metL.2 (.inr hb)
  have:=nodup_sub (L:=((metL [] xs).erase a).map f) hE (fun y hy=>by
   rcases mem_metL.1 hy with q2|q2
   ·simp at q2
   ·obtain⟨x,hx,rfl⟩:=List.mem_map.1 q2
    by_cases hxa:x=a
    ·subst hxa
     rw[e]
     exact List.mem_map.2 ⟨b,(List.mem_erase_of_ne (Ne.symm q)).2 hbD,rfl⟩
    ·exact List.mem_map.2 ⟨x,(List.mem_erase_of_ne hxa).2 (mem_metL.2 (.inr hx)),rfl⟩)
  rw[List.length_map,List.length_erase_of_mem haD] at this
  have h4:0<(metL [] xs).length:=List.length_pos_of_mem haD
  omega
theorem ixL_inj {l:List α}{a b:α} (ha:a∈l) (hb:b∈l) (e:ixL l a=ixL l b):a=b:=by
 have h1:=ixL_lt ha
 have h2:=ixL_lt hb
 unfold ixL at h1 h2 e
 rw[←List.getElem_idxOf h1,←List.getElem_idxOf h2]
 simp only[e]
theorem pushM_map {m:List α}{x:α} (f:α→β) (hi:∀ a∈m,f a=f x→a=x):(pushM m x).map f=pushM (m.map f) (f x):=by
 unfold pushM
 by_cases h:x∈m
 ·rw[if_pos h,if_pos (List.mem_map.2 ⟨x,h,rfl⟩)]
 ·rw[if_neg h,if_neg (fun q=>by obtain⟨a,ha,e⟩:=List.mem_map.1 q;exact h (hi a ha e▸ha))]
  simp
theorem metL_map (f:α→β):∀ {xs m:List α},(∀ a∈m++xs,∀ b∈m++xs,f a=f b→a=b)→metL (m.map f) (xs.map f)=(metL m xs).map f
 |[],m,_=>rfl
 |x::xs,m,h=>by
  rw[List.map_cons,metL_cons,metL_cons,←pushM_map f (fun a ha e=>h a (by simp[ha]) x (by simp) e)]
  refine metL_map f (fun a ha b hb e=>h a ?_ b ?_ e)
  ·rcases List.mem_append.1 ha with q|q
   ·rcases mem_pushM.1 q with q|rfl
    ·simp[q]
    ·simp
   ·simp[q]
  ·rcases List.mem_append.1 hb with q|q
   ·rcases mem_pushM.1 q with q|rfl
    ·simp[q]
    ·simp
   ·simp[q]
end
def Stab (next:List (List Nat)) (bl:List UInt8):Prop:=∀ i j (hi:i<next.length) (hj:j<next.length),bl.getD i 0=bl.getD j 0→lookM bl i next[i]=lookM bl j next[j]
theorem looksM_len (bl:List UInt8) (next:List (List Nat)):(looksM bl next).length=next.length:=by simp[looksM]
theorem looksM_at {bl:List UInt8}{next:List (List Nat)}{i:Nat} (h:i<next.length):(looksM bl next)[i]'(by rw[looksM_len];exact h)=lookM bl i next[i]:=by simp[looksM]
theorem looks_head {bl:List UInt8}{next:List (List Nat)} (h:bl.length=next.length):(looksM bl next).map (fun l=>l.getD 0 0)=bl:=by
 refine List.ext_getElem (by rw[List.length_map,looksM_len,h]) fun i h1 h2=>?_
 have hi:i<next.length:=by simpa [looksM_len] using h1
 rw[List.getElem_map,looksM_at hi]
 simp[lookM,List.getD_eq_getElem?_getD,List.getElem?_eq_getElem h2]
def byLook (bl:List UInt8) (next:List (List Nat)):List UInt8:=(looksM bl next).map fun l=>UInt8.ofNat (ixL (metL [] (looksM bl next)) l)
theorem byLook_len (bl:List UInt8) (next:List (List Nat)):(byLook bl next).length=next.length:=by simp[byLook,looksM_len]
theorem ofNat_inj {a b:Nat} (ha:a<256) (hb:b<256) (e:UInt8.ofNat a=UInt8.ofNat b):a=b:=by
 have:=congrArg UInt8.toNat e
 simpa [UInt8.toNat_ofNat',Nat.mod_eq_of_lt ha,Nat.mod_eq_of_lt hb] using this
theorem byLook_inj {bl:List UInt8}{next:List (List Nat)} (hn:next.length≤200) {a b:List UInt8} (ha:a∈looksM bl next) (hb:b∈looksM bl next) (e:UInt8.ofNat (ixL (metL [] (looksM bl next)) a)=UInt8.ofNat (ixL (metL [] (looksM bl next)) b)):a=b:=by
 have hl:=metL_len [] (looksM bl next)
 rw[looksM_len] at hl
 simp at hl
 have h1:ixL (metL [] (looksM bl next)) a<_:=ixL_lt (mem_metL.2 (.inr ha))
 have h2:ixL (metL [] (looksM bl next)) b<_:=ixL_lt (mem_metL.2 (.inr hb))
 have h3:=ofNat_inj (by omega) (by omega) e
 exact ixL_inj (mem_metL.2 (.inr ha)) (mem_metL.2 (.inr hb)) h3
theorem byLook_at {bl:List UInt8}{next:List (List Nat)}{i:Nat} (h:i<next.length):(byLook bl next).getD i 0=UInt8.ofNat (ixL (metL [] (looksM bl next)) (lookM bl i next[i])):=by
 have h1:i<(byLook bl next).length:=by rw[byLook_len];exact h
 rw[List.getD_eq_getElem?_getD,List.getElem?_eq_getElem h1,Option.getD_some]
 simp only[byLook,List.getElem_map]
 rw[looksM_at h]
theorem byLook_eq {bl:List UInt8}{next:List (List Nat)} (hn:next.length≤200) {i j:Nat} (hi:i<next.length) (hj:j<next.length):(byLook bl next).getD i 0=(byLook bl next).getD j 0↔lookM bl i next[i]=lookM bl j next[j]:=by
 rw[byLook_at hi,byLook_at hj]
 constructor
 ·exact byLook_inj hn (by rw[←looksM_at hi];exact List.getElem_mem _) (by rw[←looksM_at hj];exact List.getElem_mem _)
 ·intro e;rw[e]
theorem splitM_succ (next:List (List Nat)) (f:Nat) (bl:List UInt8) (many:Nat):splitM next (f+1) bl many=if many<(metL [] (looksM bl next)).length then splitM next f (byLook bl next) (metL [] (looksM bl next)).length else bl:=rfl
theorem splitM_stab (next:List (List Nat)) (hn:next.length≤200):∀(f:Nat) (bl:List UInt8) (many:Nat),bl.length=next.length→many≤(metL [] bl).length→200<f+many→Stab next (splitM next f bl many)
 |0,bl,many,hl,hm,hf=>by
  have:=metL_len [] bl
  simp at this
  omega
 |f+1,bl,many,hl,hm,hf=>by
  rw[splitM_succ]
  split
  ·rename_i hlt
   refine splitM_stab next hn f _ _ (byLook_len _ _) ?_ (by omega)
   have:=metL_map (fun l=>UInt8.ofNat (ixL (metL [] (looksM bl next)) l)) (xs:=looksM bl next) (m:=[]) (fun a ha b hb e=>byLook_inj hn (by simpa using ha) (by simpa using hb) e)
   simp only[List.map_nil] at this
   unfold byLook
   rw[this,List.length_map]
   exact Nat.le_refl _
  ·rename_i hge
   intro i j hi hj e
   refine card_inj (fun l:List UInt8=>l.getD 0 0) (xs:=looksM bl next) ?_ (by rw[←looksM_at hi];exact List.getElem_mem _) (by rw[←looksM_at hj];exact List.getElem_mem _) (by simpa [lookM] using e)
   rw[looks_head hl];omega
structure Bis (next:List (List Nat)) (R:Nat→Nat→Prop):Prop where
 r:∀ i j,R i j→i<next.length∧j<next.length
 s:∀ i j (hi:i<next.length) (hj:j<next.length),R i j→next[i].length=next[j].length∧∀ c (h1:c<next[i].length) (h2:c<next[j].length),R (next[i][c]) (next[j][c])
theorem look_bis {next:List (List Nat)}{R:Nat→Nat→Prop} (h:Bis next R) {bl:List UInt8} (hb:∀ i j,R i j→bl.getD i 0=bl.getD j 0) {i j:Nat} (hi:i<next.length) (hj:j<next.length) (e:R i j):lookM bl i next[i]=lookM bl j next[j]:=by
 obtain⟨h1,h2⟩:=h.s i j hi hj e
 unfold lookM
 rw[hb i j e]
 congr 1
 refine List.ext_getElem (by simp[h1]) fun c q1 q2=>?_
 simp only[List.getElem_map]
 exact hb _ _ (h2 c (by simpa using q1) (by simpa using q2))
theorem splitM_bis {next:List (List Nat)} (hn:next.length≤200) {R:Nat→Nat→Prop} (h:Bis next R):∀(f:Nat) (bl:List UInt8) (many:Nat),(∀ i j,R i j→bl.getD i 0=bl.getD j 0)→∀ i j,R i j→(splitM next f bl many).getD i 0=(splitM next f bl many).getD j 0
 |0,bl,many,hb=>hb
 |f+1,bl,many,hb=>by
  rw[splitM_succ]
  split
  ·exact splitM_bis hn h f _ _ (fun i j e=>by
    obtain⟨hi,hj⟩:=h.r i j e
    exact(byLook_eq hn hi hj).2 (look_bis h hb hi hj e))
  ·exact hb
theorem splitM_ref {next:List (List Nat)} (hn:next.length≤200) {i j:Nat} (hi:i<next.length) (hj:j<next.length):∀(f:Nat) (bl:List UInt8) (many:Nat),(splitM next f bl many).getD i 0=(splitM next f bl many).getD j 0→bl.getD i 0=bl.getD j 0
 |0,bl,many,e=>e
 |f+1,bl,many,e=>by
  rw[splitM_succ] at e
  split at e
  ·have:=(byLook_eq hn hi hj).1 (splitM_ref hn hi hj f _ _ e)
   unfold lookM at this
   injection this
  ·exact e
theorem TnOk.row {n k:Nat}{t:Tn} (h:TnOk n k t) {i:Nat} (hi:i<n):(t.next.getD i []).length=k:=by
 rw[getD_at (by rw[h.nl];exact hi)]
 exact(h.r _ (List.getElem_mem _)).1
theorem TnOk.nx_lt {n k:Nat}{t:Tn} (h:TnOk n k t) {i c:Nat} (hi:i<n) (hc:c<k):nx t i c<n:=by
 have h1:i<t.next.length:=by rw[h.nl];exact hi
 have h2:=h.r _ (List.getElem_mem h1)
 unfold nx
 rw[getD_at h1,getD_at (by rw[h2.1];exact hc)]
 exact h2.2 _ (List.getElem_mem _)
theorem blM_len {n k:Nat}{t:Tn} (h:TnOk n k t):(blM t).length=n:=(splitM_len _ _ _ _ (by simp[bkOf,h.al,h.nl])).trans h.nl
theorem bkOf_at (acc:List Bool) {i:Nat} (h:i<acc.length):(bkOf acc).getD i 0=if acc.getD i false then 1 else 0:=by
 rw[getD_at (by simp[bkOf,h]),getD_at h];simp[bkOf]
theorem bl_stab {n k:Nat}{t:Tn} (h:TnOk n k t) (hn:n≤200) {i j:Nat} (hi:i<n) (hj:j<n) (e:(blM t).getD i 0=(blM t).getD j 0):ac t i=ac t j∧∀ c,c<k→(blM t).getD (nx t i c) 0=(blM t).getD (nx t j c) 0:=by
 have hi':i<t.next.length:=by rw[h.nl];exact hi
 have hj':j<t.next.length:=by rw[h.nl];exact hj
 constructor
 ·have:=splitM_ref (by rw[h.nl];exact hn) hi' hj' 202 (bkOf t.acc) 0 e
  rw[bkOf_at _ (by rw[h.al];exact hi),bkOf_at _ (by rw[h.al];exact hj)] at this
  unfold ac
  generalize t.acc.getD i false=a at this ⊢
  generalize t.acc.getD j false=b at this ⊢
  cases a<;>cases b<;>simp at this ⊢
 ·intro c hc
  have hs:=splitM_stab t.next (by rw[h.nl];exact hn) 202 (bkOf t.acc) 0 (by simp[bkOf,h.al,h.nl]) (Nat.zero_le _) (by omega) i j hi' hj' e
  unfold lookM at hs
  injection hs with _ hs
  have r1:=(h.r _ (List.getElem_mem hi')).1
  have r2:=(h.r _ (List.getElem_mem hj')).1
  have h3:=congrArg (fun l=>l[c]?) hs
  simp only[List.getElem?_map] at h3
  rw[List.getElem?_eq_getElem (by rw[r1];exact hc),List.getElem?_eq_getElem (by rw[r2];exact hc)] at h3
  simp only[Option.map_some,Option.some.injEq] at h3
  unfold nx
  rw[getD_at hi',getD_at hj',getD_at (l:=t.next[i]) (by rw[r1];exact hc),getD_at (l:=t.next[j]) (by rw[r2];exact hc)]
  exact h3
def BisT (n k:Nat) (t:Tn) (R:Nat→Nat→Prop):Prop:=∀ i j,R i j→i<n∧j<n∧ac t i=ac t j∧∀ c,c<k→R (nx t i c) (nx t j c)
theorem bl_bis {n k:Nat}{t:Tn} (h:TnOk n k t) (hn:n≤200) {R:Nat→Nat→Prop} (hR:BisT n k t R) {i j:Nat} (e:R i j):(blM t).getD i 0=(blM t).getD j 0:=by
 refine splitM_bis (by rw[h.nl];exact hn) ⟨fun i j e=>?_,fun i j hi hj e=>?_⟩ 202 (bkOf t.acc) 0 (fun i j e=>?_) i j e
 ·rw[h.nl];exact⟨(hR i j e).1,(hR i j e).2.1⟩
 ·have r1:=(h.r _ (List.getElem_mem hi)).1
  have r2:=(h.r _ (List.getElem_mem hj)).1
  refine⟨r1.trans r2.symm,fun c h1 h2=>?_⟩
  have:=(hR i j e).2.2.2 c (by omega)
  unfold nx at this
  rwa [getD_at hi,getD_at hj,getD_at h1,getD_at h2] at this
 ·obtain⟨h1,h2,h3,-⟩:=hR i j e
  rw[bkOf_at _ (by rw[h.al];exact h1),bkOf_at _ (by rw[h.al];exact h2)]
  unfold ac at h3
  rw[h3]
theorem colM_at {n k:Nat}{t:Tn} (h:TnOk n k t) (bl:List UInt8) {c d:Nat}:colM bl t.next c=colM bl t.next d↔∀ q,q<n→bl.getD (nx t q c) 0=bl.getD (nx t q d) 0:=by
 constructor
 ·intro e q hq
  have hq':q<t.next.length:=by rw[h.nl];exact hq
  have h3:=congrArg (fun l=>l[q]?) e
  simp only[colM,List.getElem?_map,List.getElem?_eq_getElem hq',Option.map_some,Option.some.injEq] at h3
  unfold nx
  rw[getD_at hq']
  exact h3
 ·intro e
  unfold colM
  refine List.map_congr_left (fun row hr=>?_)
  obtain⟨q,hq,rfl⟩:=List.mem_iff_getElem.1 hr
  have:=e q (by rw[←h.nl];exact hq)
  unfold nx at this
  rwa [getD_at hq] at this
open Sx (Prt Cnt)
theorem Sp.ext {n:Nat}{s t:W4} (h:Sp n s) (g:Sp n t) (e:∀ i,mem s i↔mem t i):s=t:=by
 have h0:s.x0=t.x0:=Nat.eq_of_testBit_eq (fun i=>by
  have:=e i
  unfold mem at this
  cases a:s.x0.testBit i<;>cases b:t.x0.testBit i<;>simp[a,b] at this ⊢)
 obtain⟨x0,x1,x2,x3⟩:=s
 obtain⟨y0,y1,y2,y3⟩:=t
 obtain⟨-,a1,a2,a3⟩:=h
 obtain⟨-,b1,b2,b3⟩:=g
 simp only at *
 subst_vars
 rfl
theorem rnT_append (t:Tn) (s:Nat) (u v:List UInt8):rnT t s (u++v)=rnT t (rnT t s u) v:=by simp[rnT]
theorem TnOk.ck' {n k:Nat}{t:Tn} (h:TnOk n k t) (b:UInt8):t.cls.getD b.toNat 0<k:=by
 have hb:b.toNat<t.cls.length:=by rw[h.cl];exact b.toNat_lt
 rw[getD_at hb]
 exact h.ck _ (List.getElem_mem hb)
theorem rnT_lt {n k:Nat}{t:Tn} (h:TnOk n k t):∀(u:List UInt8) {s:Nat},s<n→rnT t s u<n
 |[],s,hs=>hs
 |b::u,s,hs=>by
  show rnT t (nx t s (t.cls.getD b.toNat 0)) u<n
  exact rnT_lt h u (h.nx_lt hs (h.ck' b))
theorem lead_at {n k:Nat}{t:Tn} (h:TnOk n k t) (hn:n≤200) {s i j:Nat} (hs:s<n) (hi:i<256) (hj:j<256) (e:colM (blM t) t.next (t.cls.getD i 0)=colM (blM t) t.next (t.cls.getD j 0)):leadM t (blM t) ((blM t).getD s 0) (t.cls.getD i 0)=(blM t).getD (nx t s (t.cls.getD j 0)) 0:=by
 have hl:=blM_len h
 have hs':s<(blM t).length:=by omega
 have hm:(blM t).getD s 0∈blM t:=by rw[getD_at hs'];exact List.getElem_mem hs'
 have h1:=List.idxOf_lt_length_of_mem hm
 have h2:(blM t).getD ((blM t).idxOf ((blM t).getD s 0)) 0=(blM t).getD s 0:=by
  conv=>lhs;rw[getD_at h1,List.getElem_idxOf h1]
 have hc:t.cls.getD i 0<k:=by
  have:i<t.cls.length:=by rw[h.cl];exact hi
  rw[getD_at this];exact h.ck _ (List.getElem_mem this)
 have h3:=(bl_stab h hn (by omega) hs h2).2 _ hc
 show(blM t).getD (nx t ((blM t).idxOf ((blM t).getD s 0)) (t.cls.getD i 0)) 0=_
 rw[h3]
 exact(colM_at h (blM t)).1 e s hs
theorem acc_at {n k:Nat}{t:Tn} (h:TnOk n k t) (hn:n≤200) {s:Nat} (hs:s<n):t.acc.getD ((blM t).idxOf ((blM t).getD s 0)) false=ac t s:=by
 have hl:=blM_len h
 have hs':s<(blM t).length:=by omega
 have hm:(blM t).getD s 0∈blM t:=by rw[getD_at hs'];exact List.getElem_mem hs'
 have h1:=List.idxOf_lt_length_of_mem hm
 have h2:(blM t).getD ((blM t).idxOf ((blM t).getD s 0)) 0=(blM t).getD s 0:=by
  conv=>lhs;rw[getD_at h1,List.getElem_idxOf h1]
 exact(bl_stab h hn (by omega) hs h2).1
theorem leastM_parts (t:Tn):∃ x,leastB t (blM t)=some x∧leastM t=⟨t.front,t.back,(colsM t (blM t)).map (ixL (metL [] (colsM t (blM t)))),x.1.map fun b=>t.acc.getD ((blM t).idxOf b) false,x.2⟩:=by
 obtain⟨x,hx⟩:=leastB_some t (blM t)
 exact⟨x,hx,by unfold leastM;rw[hx]⟩
theorem cols_at {n k:Nat}{t:Tn} (h:TnOk n k t) {i:Nat} (hi:i<256):(colsM t (blM t))[i]?=some (colM (blM t) t.next (t.cls.getD i 0)):=by
 have:i<t.cls.length:=by rw[h.cl];exact hi
 unfold colsM
 rw[List.getElem?_map,List.getElem?_eq_getElem this,getD_at this];rfl
section
variable {α β γ δ ε:Type} [DecidableEq α] [DecidableEq β] [DecidableEq γ]
theorem ixL_map (f:α→β):∀ {l:List α}{x:α},x∈l→(∀ a∈l,f a=f x→a=x)→ixL (l.map f) (f x)=ixL l x
 |[],x,hx,_=>by simp at hx
 |a::l,x,hx,hi=>by
  unfold ixL
  rw[List.map_cons,List.idxOf_cons,List.idxOf_cons]
  by_cases h:a=x
  ·subst h;simp
  ·have h':¬ f a=f x:=fun e=>h (hi a (by simp) e)
   have hx':x∈l:=by
    rcases List.mem_cons.1 hx with q|q
    ·exact(h q.symm).elim
    ·exact q
   rw[show(f a==f x)=false by simp[h'],show(a==x)=false by simp[h]]
   simp only[cond_false]
   have:=ixL_map f hx' (fun b hb e=>hi b (by simp[hb]) e)
   unfold ixL at this
   rw[this]
theorem same_num {xs:List α}{ys:List β} (hl:xs.length=ys.length) (h:∀ i j (hi:i<xs.length) (hj:j<xs.length),xs[i]=xs[j]↔ys[i]'(hl▸hi)=ys[j]'(hl▸hj)):xs.map (ixL (metL [] xs))=ys.map (ixL (metL [] ys))∧(metL [] xs).map (ixL xs)=(metL [] ys).map (ixL ys):=by
 obtain⟨zs,hz⟩:∃ zs,zs=xs.zip ys:=⟨_,rfl⟩
 have h1:zs.map Prod.fst=xs:=by rw[hz];exact List.map_fst_zip (by omega)
 have h2:zs.map Prod.snd=ys:=by rw[hz];exact List.map_snd_zip (by omega)
 have i1:∀ a∈zs,∀ b∈zs,a.1=b.1→a=b:=fun a ha b hb e=>by
  obtain⟨i,hi,rfl⟩:=List.mem_iff_getElem.1 ha
  obtain⟨j,hj,rfl⟩:=List.mem_iff_getElem.1 hb
  subst hz
  simp only[List.getElem_zip,List.length_zip] at e hi hj ⊢
  rw[Prod.mk.injEq]
  exact⟨e,(h i j (by omega) (by omega)).1 e⟩
 have i2:∀ a∈zs,∀ b∈zs,a.2=b.2→a=b:=fun a ha b hb e=>by
  obtain⟨i,hi,rfl⟩:=List.mem_iff_getElem.1 ha
  obtain⟨j,hj,rfl⟩:=List.mem_iff_getElem.1 hb
  subst hz
  simp only[List.getElem_zip,List.length_zip] at e hi hj ⊢
  rw[Prod.mk.injEq]
  exact⟨(h i j (by omega) (by omega)).2 e,e⟩
 have m1:metL [] xs=(metL [] zs).map Prod.fst:=by rw[←h1];exact metL_map (m:=[]) Prod.fst (by simpa using i1)
 have m2:metL [] ys=(metL [] zs).map Prod.snd:=by rw[←h2];exact metL_map (m:=[]) Prod.snd (by simpa using i2)
 have mm:∀ z,z∈metL [] zs→z∈zs:=fun z hz=>by simpa using mem_metL.1 hz
 have mm':∀ z,z∈zs→z∈metL [] zs:=fun z hz=>mem_metL.2 (.inr hz)
 constructor
 ·rw[m1,m2]
  have e1:xs.map (ixL ((metL [] zs).map Prod.fst))=zs.map (ixL (metL [] zs)):=by
   rw[←h1,List.map_map]
   exact List.map_congr_left (fun z hz=>ixL_map Prod.fst (mm' z hz) (fun a ha=>i1 a (mm a ha) z hz))
  have e2:ys.map (ixL ((metL [] zs).map Prod.snd))=zs.map (ixL (metL [] zs)):=by
   rw[←h2,List.map_map]
   exact List.map_congr_left (fun z hz=>ixL_map Prod.snd (mm' z hz) (fun a ha=>i2 a (mm a ha) z hz))
  rw[e1,e2]
 ·rw[m1,m2,List.map_map,List.map_map]
  refine List.map_congr_left (fun z hz=>?_)
  have e1:=ixL_map Prod.fst (mm z hz) (fun a ha=>i1 a ha z (mm z hz))
  have e2:=ixL_map Prod.snd (mm z hz) (fun a ha=>i2 a ha z (mm z hz))
  rw[h1] at e1
  rw[h2] at e2
  simp only[Function.comp]
  rw[e1,e2]
theorem stsM_map {step:γ→δ→γ}{step':α→ε→α}{f:γ→α}{g:δ→ε}{P:γ→Prop}{rs:List δ}{limit:Nat} (hP:∀ q r,P q→r∈rs→P (step q r)) (hf:∀ q r,P q→r∈rs→f (step q r)=step' (f q) (g r)) (hi:∀ a b,P a→P b→f a=f b→a=b) :
  ∀(fu:Nat) (met:List γ) (tk:Nat) (rows:List (List Nat)),(∀ q∈met,P q)→stsM step' (rs.map g) limit fu (met.map f) tk rows=(stsM step rs limit fu met tk rows).map fun x=>(x.1.map f,x.2)
 |0,met,tk,rows,_=>by simp[stsM]
 |fu+1,met,tk,rows,hm=>by
  simp only[stsM,List.getElem?_map]
  cases hq:met[tk]? with
  |none=>simp
  |some q=>
   have hPq:=hm q (List.mem_of_getElem? hq)
   have e1:(rs.map g).map (step' (f q))=(rs.map (step q)).map f:=by
    rw[List.map_map,List.map_map]
    exact List.map_congr_left (fun r hr=>(hf q r hPq hr).symm)
   have hPr:∀ y∈rs.map (step q),P y:=fun y hy=>by
    obtain⟨r,hr,rfl⟩:=List.mem_map.1 hy
    exact hP q r hPq hr
   have hall:∀ y∈metL met (rs.map (step q)),P y:=fun y hy=>(mem_metL.1 hy).elim (hm y) (hPr y)
   have e2:metL (met.map f) ((rs.map (step q)).map f)=(metL met (rs.map (step q))).map f:=metL_map f (fun a ha b hb e=>hi a b ((List.mem_append.1 ha).elim (hm a) (hPr a)) ((List.mem_append.1 hb).elim (hm b) (hPr b)) e)
   have e3:((rs.map (step q)).map f).map ((metL met (rs.map (step q))).map f).idxOf=(rs.map (step q)).map (metL met (rs.map (step q))).idxOf:=by
    rw[List.map_map]
    refine List.map_congr_left (fun y hy=>?_)
    exact ixL_map f (mem_metL.2 (.inr hy)) (fun a ha e=>hi a y (hall a ha) (hPr y hy) e)
   simp only[Option.map_some]
   rw[e1,e2,e3,List.length_map]
   split
   ·rfl
   ·exact stsM_map hP hf hi fu _ (tk+1) _ hall
end
theorem res_cons (t:Tn) (s:Nat) (b:UInt8) (v:List UInt8):res t s (b::v)=res t (nx t s (t.cls.getD b.toNat 0)) v:=rfl
theorem bl_res {n k:Nat}{t:Tn} (h:TnFull n k t) (hn:n≤200) {i j:Nat} (hi:i<n) (hj:j<n):(blM t).getD i 0=(blM t).getD j 0↔res t i=res t j:=by
 constructor
 ·intro e
  funext v
  induction v generalizing i j with
  |nil=>exact(bl_stab h.ok hn hi hj e).1
  |cons b v ih=>
   rw[res_cons,res_cons]
   have hc:=h.ok.ck' b
   exact ih (h.ok.nx_lt hi hc) (h.ok.nx_lt hj hc) ((bl_stab h.ok hn hi hj e).2 _ hc)
 ·intro e
  refine bl_bis h.ok hn (R:=fun i j=>i<n∧j<n∧res t i=res t j) ?_ ⟨hi,hj,e⟩
  rintro i j ⟨hi,hj,e⟩
  refine⟨hi,hj,congrFun e [],fun c hc=>⟨h.ok.nx_lt hi hc,h.ok.nx_lt hj hc,?_⟩⟩
  obtain⟨m,hm,hmc⟩:=List.mem_iff_getElem.1 (h.su c hc)
  have hm':m<256:=by rw[←h.ok.cl];exact hm
  have hb:(UInt8.ofNat m).toNat=m:=by simp;omega
  have hg:t.cls.getD (UInt8.ofNat m).toNat 0=c:=by rw[hb,getD_at hm,hmc]
  funext v
  have:=congrFun e (UInt8.ofNat m::v)
  rw[res_cons,res_cons,hg] at this
  exact this
theorem reached {n k:Nat}{t:Tn} (h:TnFull n k t):∀ j,j<n→∃ u,rnT t 0 u=j:=by
 intro j
 induction j using Nat.strongRecOn with
 |_ j ih=>
  intro hj
  by_cases h0:j=0
  ·subst h0;exact⟨[],rfl⟩
  ·obtain⟨i,c,h1,h2,h3⟩:=h.rc j (by omega) hj
   obtain⟨u,hu⟩:=ih i h1 (by omega)
   obtain⟨m,hm,hmc⟩:=List.mem_iff_getElem.1 (h.su c h2)
   have hm':m<256:=by rw[←h.ok.cl];exact hm
   have hb:(UInt8.ofNat m).toNat=m:=by simp;omega
   have hg:t.cls.getD (UInt8.ofNat m).toNat 0=c:=by rw[hb,getD_at hm,hmc]
   exact⟨u++[UInt8.ofNat m],by rw[rnT_snoc,hu,hg,h3]⟩
theorem res_run (t:Tn) (u v:List UInt8):res t (rnT t 0 u) v=ac t (rnT t 0 (u++v)):=by unfold res;rw[rnT_append]
theorem col_res {n k:Nat}{t:Tn} (h:TnFull n k t) (hn:n≤200) (b d:UInt8):colM (blM t) t.next (t.cls.getD b.toNat 0)=colM (blM t) t.next (t.cls.getD d.toNat 0)↔∀ u v,ac t (rnT t 0 (u++b::v))=ac t (rnT t 0 (u++d::v)):=by
 rw[colM_at h.ok]
 constructor
 ·intro e u v
  have hu:=rnT_lt h.ok u (show 0<n by have:=h.ok.n1;omega)
  have h1:=(bl_res h hn (h.ok.nx_lt hu (h.ok.ck' b)) (h.ok.nx_lt hu (h.ok.ck' d))).1 (e _ hu)
  have h2:=congrFun h1 v
  rw[←res_run,←res_run,res_cons,res_cons]
  exact h2
 ·intro e q hq
  obtain⟨u,rfl⟩:=reached h q hq
  refine(bl_res h hn (h.ok.nx_lt hq (h.ok.ck' b)) (h.ok.nx_lt hq (h.ok.ck' d))).2 (funext fun v=>?_)
  have:=e u v
  rw[←res_run,←res_run,res_cons,res_cons] at this
  exact this
theorem cols_eq {n k:Nat}{t:Tn} (h:TnFull n k t) (hn:n≤200) {i j:Nat} (hi:i<(colsM t (blM t)).length) (hj:j<(colsM t (blM t)).length):(colsM t (blM t))[i]=(colsM t (blM t))[j]↔∀ u v,ac t (rnT t 0 (u++UInt8.ofNat i::v))=ac t (rnT t 0 (u++UInt8.ofNat j::v)):=by
 have hl:(colsM t (blM t)).length=256:=by simp[colsM,h.ok.cl]
 have e:∀ i,(hi:i<(colsM t (blM t)).length)→(colsM t (blM t))[i]=colM (blM t) t.next (t.cls.getD (UInt8.ofNat i).toNat 0):=fun i hi=>by
  have h1:=cols_at h.ok (show i<256 by omega)
  rw[List.getElem?_eq_getElem hi] at h1
  injection h1 with h1
  rw[h1,show(UInt8.ofNat i).toNat=i by simp;omega]
 rw[e i hi,e j hj]
 exact col_res h hn _ _
theorem leastM_same {n k n' k':Nat}{t t':Tn} (h:TnFull n k t) (h':TnFull n' k' t') (hn:n≤200) (hn':n'≤200) (hf:t.front=t'.front) (hb:t.back=t'.back) (e:∀ u,ac t (rnT t 0 u)=ac t' (rnT t' 0 u)):leastM t=leastM t':=by
 obtain⟨x,hx,hL⟩:=leastM_parts t
 obtain⟨x',hx',hL'⟩:=leastM_parts t'
 have hl:(colsM t (blM t)).length=256:=by simp[colsM,h.ok.cl]
 have hl':(colsM t' (blM t')).length=256:=by simp[colsM,h'.ok.cl]
 obtain⟨s1,s2⟩:=same_num (hl.trans hl'.symm) (fun i j hi hj=>by
  rw[cols_eq h hn hi hj,cols_eq h' hn' (by omega) (by omega)]
  simp only[e])
 have hn1:=h.ok.n1
 have hn1':=h'.ok.n1
 obtain⟨RB,hRB⟩:∃ RB,RB=(metL [] (colsM t (blM t))).map (ixL (colsM t (blM t))):=⟨_,rfl⟩
 have ho:oldsM t.cls (colsM t (blM t))=RB.map fun b=>t.cls.getD b 0:=by
  rw[hRB,List.map_map];rfl
 have ho':oldsM t'.cls (colsM t' (blM t'))=RB.map fun b=>t'.cls.getD b 0:=by
  rw[hRB,s2,List.map_map];rfl
 have hRl:∀ b∈RB,b<256:=fun b hb=>by
  rw[hRB] at hb
  obtain⟨c,hc,rfl⟩:=List.mem_map.1 hb
  rw[←hl];exact ixL_lt (by simpa using mem_metL.1 hc)
 let P:UInt8×UInt8→Prop:=fun q=>∃ u,q.1=(blM t).getD (rnT t 0 u) 0∧q.2=(blM t').getD (rnT t' 0 u) 0
 let step:UInt8×UInt8→Nat→UInt8×UInt8:=fun q b=>(leadM t (blM t) q.1 (t.cls.getD b 0),leadM t' (blM t') q.2 (t'.cls.getD b 0))
 have lt0:∀ u,rnT t 0 u<n:=fun u=>rnT_lt h.ok u (by omega)
 have lt0':∀ u,rnT t' 0 u<n':=fun u=>rnT_lt h'.ok u (by omega)
 have hP:∀ q r,P q→r∈RB→P (step q r):=by
  rintro⟨a,b⟩ r ⟨u,e1,e2⟩ hr
  have hr':=hRl r hr
  have hbr:(UInt8.ofNat r).toNat=r:=by simp;omega
  simp only at e1 e2
  subst e1
  subst e2
  refine⟨u++[UInt8.ofNat r],?_,?_⟩
  ·show leadM t (blM t) _ _=_
   rw[lead_at h.ok hn (lt0 u) hr' hr' rfl,rnT_snoc,hbr]
  ·show leadM t' (blM t') _ _=_
   rw[lead_at h'.ok hn' (lt0' u) hr' hr' rfl,rnT_snoc,hbr]
 have key:∀ u v,(blM t).getD (rnT t 0 u) 0=(blM t).getD (rnT t 0 v) 0↔(blM t').getD (rnT t' 0 u) 0=(blM t').getD (rnT t' 0 v) 0:=fun u v=>by
  rw[bl_res h hn (lt0 u) (lt0 v),bl_res h' hn' (lt0' u) (lt0' v)]
  constructor
  ·intro q
   funext z
   have:=congrFun q z
   rw[res_run,res_run,e,e] at this
   rw[res_run,res_run];exact this
  ·intro q
   funext z
   have:=congrFun q z
   rw[res_run,res_run,←e,←e] at this
   rw[res_run,res_run];exact this
 have i1:∀ a b,P a→P b→a.1=b.1→a=b:=by
  rintro⟨a1,a2⟩ ⟨b1,b2⟩ ⟨u,q1,q2⟩ ⟨v,q3,q4⟩ q5
  simp only at *
  rw[Prod.mk.injEq]
  refine⟨q5,?_⟩
  rw[q2,q4]
  exact(key u v).1 (by rw[←q1,←q3];exact q5)
 have i2:∀ a b,P a→P b→a.2=b.2→a=b:=by
  rintro⟨a1,a2⟩ ⟨b1,b2⟩ ⟨u,q1,q2⟩ ⟨v,q3,q4⟩ q5
  simp only at *
  rw[Prod.mk.injEq]
  refine⟨?_,q5⟩
  rw[q1,q3]
  exact(key u v).2 (by rw[←q2,←q4];exact q5)
 have hm0:∀ q∈[((blM t).getD 0 0,(blM t').getD 0 0)],P q:=fun q hq=>by
  simp only[List.mem_singleton] at hq
  subst hq
  exact⟨[],rfl,rfl⟩
 have g1:=stsM_map (step:=step) (step':=leadM t (blM t)) (f:=Prod.fst) (g:=fun b=>t.cls.getD b 0) (P:=P) (rs:=RB) (limit:=256) hP (fun _ _ _ _=>rfl) i1 258 [((blM t).getD 0 0,(blM t').getD 0 0)] 0 [] hm0
 have g2:=stsM_map (step:=step) (step':=leadM t' (blM t')) (f:=Prod.snd) (g:=fun b=>t'.cls.getD b 0) (P:=P) (rs:=RB) (limit:=256) hP (fun _ _ _ _=>rfl) i2 258 [((blM t).getD 0 0,(blM t').getD 0 0)] 0 [] hm0
 unfold leastB at hx hx'
 rw[ho] at hx
 rw[ho'] at hx'
 rw[show List.map Prod.fst [((blM t).getD 0 0,(blM t').getD 0 0)]=[(blM t).getD 0 0] from rfl,hx] at g1
 rw[show List.map Prod.snd [((blM t).getD 0 0,(blM t').getD 0 0)]=[(blM t').getD 0 0] from rfl,hx'] at g2
 cases hz:stsM step RB 256 258 [((blM t).getD 0 0,(blM t').getD 0 0)] 0 [] with
 |none=>rw[hz] at g1;simp at g1
 |some z=>
  rw[hz] at g1 g2
  simp only[Option.map_some,Option.some.injEq] at g1 g2
  have hall:∀ q∈z.1,P q:=stsM_all P hP hm0 hz
  rw[hL,hL',g1,g2,s1,hf,hb]
  congr 1
  simp only[List.map_map]
  refine List.map_congr_left (fun q hq=>?_)
  obtain⟨u,q1,q2⟩:=hall q hq
  simp only[Function.comp]
  rw[q1,q2,acc_at h.ok hn (lt0 u),acc_at h'.ok hn' (lt0' u)]
  exact e u
open Sx (Prt Cnt Res pChain pChoices pPart pAtom pCounts pBounds begins)
theorem lng_ext {L M:Lng} (h:∀ w,L w↔M w):L=M:=funext fun w=>propext (h w)
theorem LC_append (a b:List Prt):LC (a++b)=lCat (LC a) (LC b):=by
 induction a with
 |nil=>exact lng_ext fun w=>by simp only[List.nil_append,LC];exact(lCat_n (fun _=>Iff.rfl) w).symm
 |cons p a ih=>exact lng_ext fun w=>by simp only[List.cons_append,LC,ih];exact(lCat_assoc w).symm
theorem LC_one (p:Prt):LC [p]=LP p:=lng_ext fun w=>by simp only[LC];exact lCat_nil w
theorem LC_toC:∀ t,LC (toC t)=LK t
 |.nil=>by simp[toC,LC,LK]
 |.chr c=>by simp[toC,LC_one,LP,LK,cntsL]
 |.nota=>by simp[toC,LC_one,LP,LK,cntsL]
 |.cat x y=>by simp[toC,LC_append,LC_toC x,LC_toC y,LK]
 |.g1 x cs=>by
  simp only[toC,LC_one,LP,LK,LCs]
  rw[LC_toC x,show lAlt (LK x) l0=LK x from lng_ext fun w=>by simp[lAlt,l0]]
 |.g2 x y cs=>by
  simp only[toC,LC_one,LP,LK,LCs]
  rw[LC_toC x,LC_toC y,show lAlt (LK y) l0=LK y from lng_ext fun w=>by simp[lAlt,l0]]
open Sx (Prt Cnt Res pChain pChoices begins tkR tkB)
theorem pChoices_two {t u:KT} (hk:KOk t) (hu:KOk u) {n:Nat} (hn:3*((tx t).length+(tx u).length)+4≤n) (b:Bool):pChoices n (tx t++124::(tx u++endP b))=.ok [toC t,toC u] (endP b):=by
 have h1:=toC_len t
 obtain⟨k,rfl⟩:∃ k,n=k+1:=⟨n-1,by omega⟩
 have hx:=pChain_tx t hk k (124::(tx u++endP b)) (by omega) (by simp[noC])
 obtain⟨j,hj⟩:∃ j,k-(toC t).length=j+1:=⟨k-(toC t).length-1,by omega⟩
 rw[hj,pChain_end (n:=j) (r:=124::(tx u++endP b)) rfl] at hx
 simp only[pre,List.append_nil] at hx
 simp[Sx.pChoices,hx,pChoices_one hu (n:=k) (by omega) b]
theorem readP_two {t u:KT} (hk:KOk t) (hu:KOk u) (f b:Bool):Sx.readP (begP f++(tx t++124::(tx u++endP b)))=.ok ⟨f,b,[toC t,toC u]⟩ []:=by
 obtain⟨h1,h2⟩:=tk_beg f (tx_no94 t hk (rest:=124::(tx u++endP b)) (fun c r e=>by simp at e;rw[←e.1];decide))
 obtain⟨h3,h4⟩:=tk_end b
 unfold Sx.readP
 rw[h1,h2,pChoices_two hk hu (by simp;omega) b]
 simp[h3,h4]
open Go.RowKit
structure BW (W:World) (g N:Nat) (B:Nat→UInt8):Prop where
 c:∀ j,j<N→W.cell? ⟨g,j,none⟩=some (.int .u8 (B j).toNat)
 f:∀ j,j<N→W.frozen? ⟨g,j,none⟩=false
theorem BW.set {W:World}{g N:Nat}{B B':Nat→UInt8} (h:BW W g N B) {k:Nat} (hk:k<N) {x:UInt8} (e:∀ j,j<N→B' j=if j=k then x else B j):BW (W.setCell ⟨g,k,none⟩ (.int .u8 x.toNat)) g N B':=by
 refine⟨fun j hj=>?_,fun o ho=>by simpa using h.f o ho⟩
 rw[e j hj]
 by_cases q:j=k
 ·subst q;rw[World.cell?_setCell_same _ _ _ (h.c j hj)];simp
 ·rw[World.cell?_setCell_other _ _ _ _ (by first|(simp;done)|(simp;omega)),h.c j hj];simp[q]
end Go.Proofs.YtbjabpodkaokjaaGreatDoor

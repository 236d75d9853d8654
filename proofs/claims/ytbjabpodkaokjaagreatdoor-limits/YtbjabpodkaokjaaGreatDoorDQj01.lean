import Derived.Test.YtbjabpodkaokjaaGreatDoorJ01
import Derived.WalkKit
import Derived.Below
import Derived.RowKit
import Derived.KernelRfl
import Derived.Test.YtbjabpodkaokjaaGreatDoorJ02
import Derived.Deep.AppendLies
import Derived.Laws.BitsLemmas
import Derived.Laws.Bits64
import Derived.Test.YtbjabpodkaokjaaGreatDoorJ03
import Derived.BigRegion
import Derived.BigQuiet
import Derived.Maps.Own
import Derived.Deep.RegionHeld3
import Derived.Deep.RegionLaw
import Derived.Deep.QuietTactic
import Derived.DeepKeys4
import Derived.OwnWalk
import Derived.Lib.LazyBuf
import Derived.Great.BuildSlice
import Derived.Test.YtbjabpodkaokjaaGreatDoorJ04
import Derived.Test.YtbjabpodkaokjaaGreatDoorJ05
import Derived.Test.YtbjabpodkaokjaaGreatDoorJ06
import Derived.Shelf.Spec.TrailingZeros
import Derived.Test.YtbjabpodkaokjaaGreatDoorJ07
import Derived.Maps.AppendAt
import Derived.Lib.AppendStr
import Derived.RangeFuncNested
import Derived.RangeFuncBound
import Derived.RangeFuncCalls
import Derived.RangeFuncLeaves
import Derived.RangeFuncFrom
import Derived.Shelf.Abstract
import Derived.Shelf.RegionOpen
import Derived.OwnWalkIn
import Derived.TacticsInMore
import Derived.LoopNIn
import Derived.LoopIn
import Derived.Lib.BufferRead
import Derived.Test.YtbjabpodkaokjaaGreatDoorJ08
import Derived.Test.YtbjabpodkaokjaaGreatDoorJ09
import Derived.Deep.CutRange
import Derived.Test.YtbjabpodkaokjaaGreatDoorJ10
import Derived.Test.YtbjabpodkaokjaaGreatDoorJ11
import Derived.Test.YtbjabpodkaokjaaGreatDoorJ12
import GoSem.Claim
import GoSem.ClaimJoined
import GoSem.ClaimMapViews
import Derived.WalkSpells
import Derived.WalkLawsBesides
import Derived.Deep.Light
import Derived.Test.YtbjabpodkaokjaaGreatDoorJ13
import Derived.Deep.RegionWith
import Derived.Test.YtbjabpodkaokjaaGreatDoorJ14
import Derived.Test.YtbjabpodkaokjaaGreatDoorJ15
import Derived.Deep.Draws
import Derived.Test.YtbjabpodkaokjaaGreatDoorJ16
import Derived.Test.YtbjabpodkaokjaaGreatDoorJ17
import Derived.Test.YtbjabpodkaokjaaGreatDoorJ18
import Derived.Test.YtbjabpodkaokjaaGreatDoorJ19
import Derived.Test.YtbjabpodkaokjaaGreatDoorJ20
import Derived.Test.YtbjabpodkaokjaaGreatDoorJ21
import Derived.Test.YtbjabpodkaokjaaGreatDoorJ22
import Derived.Test.YtbjabpodkaokjaaGreatDoorJ23
import Derived.Test.YtbjabpodkaokjaaGreatDoorJ24
import Derived.Test.YtbjabpodkaokjaaGreatDoorJ25
import Derived.Test.YtbjabpodkaokjaaGreatDoorJ26
import Derived.Test.YtbjabpodkaokjaaGreatDoorJ27
import Derived.Sort.CutIn
import Derived.Test.YtbjabpodkaokjaaGreatDoorJ28
import Derived.Great.Walk
import Derived.Test.YtbjabpodkaokjaaGreatDoorJ29
import Derived.Lib.BytesEntry
import Derived.Test.YtbjabpodkaokjaaGreatDoorJ30
import Derived.Test.YtbjabpodkaokjaaGreatDoorJ31
import Derived.Test.YtbjabpodkaokjaaGreatDoorJ32
import Derived.Test.YtbjabpodkaokjaaGreatDoorJ33
import Derived.Test.YtbjabpodkaokjaaGreatDoorJ34
import Derived.Test.YtbjabpodkaokjaaGreatDoorJ35
import Derived.Test.YtbjabpodkaokjaaGreatDoorJ36
set_option linter.unusedVariables false
set_option linter.unusedSimpArgs false
set_option maxHeartbeats 4000000
set_option maxRecDepth 100000
namespace Go.Proofs.YtbjabpodkaokjaaGreatDoor
structure Fits (t:Tb) (c:Nat):Prop where
 a1:1≤t.acc.length
 a2:t.acc.length≤200
 n:t.next.length=t.acc.length
 cc:c≤256
 cls:t.cls.length=256
 st:okZ t.start
 r:∀ r∈t.next,r.length=c∧∀ z∈r,okZ z
section
variable {P:Program} (w:World)
end
theorem Kp.now {ρ:Nat→Nat}{q lim:Nat}{w:World}{F:World→Prop} (h:Kp ρ q lim w F):F w:=h w (Off.refl _ _ _ _)
open Go.RowKit
theorem TbOk.fits {t:Tb}{c:Nat} (h:TbOk t c):Fits t c:=by
 have h2:=h.c256
 have:=h.a2
 have:=h.s1
 have:=h.s2
 exact⟨h.a1,h.a2,h.n,h2.1,h2.2,⟨by omega,by omega⟩,fun r hr=>⟨(h.r r hr).1,fun z hz=>by have:=(h.r r hr).2 z hz;exact⟨this.1,by omega⟩⟩⟩
theorem Wst.drew {g:Nat}{x w:World} (h:Wst g x w):Wst g x w.drew:=⟨h.bl.drew,h.kp⟩
open Go.RowKit Go.Shelf
theorem Stb.on {g:Nat}{w w':World}{P:World→Prop} (h:Stb g w P) (hb:Below g w w'):Stb g w' P:=fun w2 h2=>h w2 (hb.trans h2)
section
variable {w1 wr w2:World}{g tb:Nat}{big:Bool}{l l':List UInt8}{f bk:Bool}{st:Int}{cls:List UInt8}{va vn:Value}{acc:List Bool}{us:List Value}{rows:List (List Int)}
end
open Go.RowKit
section
variable {w wr w2:World}{f b:Bool}{st:Int}{cls:List UInt8}{n tT tA tB lo:Nat}{acc:List Bool}{next:List (List Int)}{gs:List Nat}{ka k:Nat}
end
open Go.RowKit
theorem TabN.below {lo:Nat}{w w':World}{t:Tb}{tA tB:Nat}{gs:List Nat} (h:TabN lo w t tA tB gs) (hb:Below w.heap.size w w'):TabN lo w' t tA tB gs:=by
 have hz:=hb.size
 obtain⟨o1,o2,o3,o4,o5,o6⟩:=h.o
 exact⟨h.na.of_block (hb.block _ o4),h.nb.of_block (hb.block _ o5),h.gl,fun j hj=>⟨(h.rows j hj).1.of_block (hb.block _ (h.rows j hj).2.2),(h.rows j hj).2.1,by have:=(h.rows j hj).2.2;omega⟩,h.mono,⟨o1,o2,o3,by omega,by omega,o6⟩⟩
open Go.RowKit Go.Shelf
theorem mtable_any (w:World) (m:Nat) (t:Tb) (c:Nat) (h:Mch w m t c) :
  Calls Tryz.prog 16 #[.pointer (some ⟨m,0,none⟩)] w fun e w'=>∃ tA tB gs,e=.returned (.tuple #[tv t (.slice (some ⟨tA,0,none⟩) t.acc.length t.acc.length) (.slice (some ⟨tB,0,none⟩) t.next.length t.next.length),.int .i64 0])∧TabN w.heap.size w' t tA tB gs∧Below w.heap.size w w':=by
 obtain⟨g,h1,h2,h3⟩:=h
 have hB:Below w.heap.size w (w.alloc (.cells tc0 33)):=(Below.refl _ _).alloc (Nat.le_refl _) _
 have hl:=table_any (w.alloc (.cells tc0 33)) g t c (h2.below hB) h3
 have h1':=cell_below hB h1
 have HB:Hid (Below w.heap.size w (w.alloc (.cells tc0 33))):=hB
 rw[World.size_alloc] at hl
 clear h2 h3 hB
 go_enter Tryz.func16,Tryz.ntmps16
 go_wp2_with (go_at_call 50;refine hl.mono ?_;rintro e w1 ⟨tA,tB,gs,rfl,hn,hb⟩;obtain⟨r0,r1,r2,r3,r4,r5⟩:=box6 ((hb.block w.heap.size (by omega)).trans (heap_alloc_new w _));have rf:=boxfz ((hb.block w.heap.size (by omega)).trans (heap_alloc_new w (.cells tc0 33)));have HN:Hid (TabN (w.heap.size+1) w1 t tA tB gs):=hn;have HB1:Hid (Below w.heap.size w w1):=HB.out.trans (hb.mono (by omega));clear hb hn)
 refine bodyPost_ret (v:=.tuple #[tv t (.slice (some ⟨tA,0,none⟩) t.acc.length t.acc.length) (.slice (some ⟨tB,0,none⟩) t.next.length t.next.length),.int .i64 0]) (by simp[results,Tryz.results16,go_sem,r0,r1,r2,r3,r4,r5]) rfl ?_
 refine⟨tA,tB,gs,rfl,?_,?_⟩
 ·exact((((((HN.out.set (by omega) _ _).set (by omega) _ _).set (by omega) _ _).set (by omega) _ _).set (by omega) _ _).set (by omega) _ _).weak (by omega)
 ·exact(by(repeat first|(with_reducible refine Below.setCell ?_ (by first|exact Nat.le_refl _|(simp;done)|(simp;omega)) _)|(with_reducible refine Below.alloc ?_ (by first|omega|(simp;done)|(simp;omega)) _)|(with_reducible refine Below.drew ?_));exact HB1.out)
theorem sameTable_eq (w:World) (t:Tb) (va vn va' vn':Value) (h:TabIn w t va vn) (h':TabIn w t va' vn') (hs:Small t) :
  Calls Tryz.prog 26 #[tv t va vn,tv t va' vn'] w fun e w'=>e=.returned (.bool true)∧Below w.heap.size w w':=by
 obtain⟨f,b,st,cls,acc,next⟩:=t
 obtain⟨ha,⟨us,hul,hu,hr⟩⟩:=h
 obtain⟨ha',⟨us',hul',hu',hr'⟩⟩:=h'
 obtain⟨s1,s2,s3,s4⟩:=hs
 simp only at *
 obtain⟨a,ca,rfl⟩:=ha.form
 obtain⟨a',ca',rfl⟩:=ha'.form
 obtain⟨an,cn,rfl⟩:=hu.form
 obtain⟨an',cn',rfl⟩:=hu'.form
 rw[hul] at hu ⊢
 rw[hul'] at hu' ⊢
 obtain⟨n,hn⟩:∃ n,n=next.length:=⟨_,rfl⟩
 rw[←hn] at hu hu' hul hul' s2 ⊢
 obtain⟨m,hm⟩:∃ m,m=acc.length:=⟨_,rfl⟩
 rw[←hm] at s1 ⊢
 have HM:Hid (m=acc.length):=hm
 have HN:Hid (n=next.length∧us.length=n∧us'.length=n):=⟨hn,hul,hul'⟩
 obtain⟨w1,hw1⟩:∃ w1,w1=(w.alloc (.cells #[.bool f,.bool b,.int .i64 st,.string (ba cls),.slice a m ca,.slice an n cn] 33)).alloc (.cells #[.bool f,.bool b,.int .i64 st,.string (ba cls),.slice a' m ca',.slice an' n cn'] 33):=⟨_,rfl⟩
 have hB1:Below w.heap.size w w1:=by rw[hw1];exact((Below.refl _ _).alloc (Nat.le_refl _) _).alloc (by simp) _
 have hz1:w1.heap.size=w.heap.size+2:=by rw[hw1];simp
 have HX1:Hid (∀ w',Below w1.heap.size w1 w'→w'.heap[w.heap.size]?=some (.cells #[.bool f,.bool b,.int .i64 st,.string (ba cls),.slice a m ca,.slice an n cn] 33)):=fun w' hb=>by
  rw[hb.block _ (by omega),hw1]
  exact(Below.heap_alloc (w.alloc _) _ _ (by simp)).trans (heap_alloc_new w _)
 have HX2:Hid (∀ w',Below w1.heap.size w1 w'→w'.heap[w.heap.size+1]?=some (.cells #[.bool f,.bool b,.int .i64 st,.string (ba cls),.slice a' m ca',.slice an' n cn'] 33)):=fun w' hb=>by
  rw[hb.block _ (by omega),hw1]
  have:=heap_alloc_new (w.alloc (.cells #[.bool f,.bool b,.int .i64 st,.string (ba cls),.slice a m ca,.slice an n cn] 33)) (.cells #[.bool f,.bool b,.int .i64 st,.string (ba cls),.slice a' m ca',.slice an' n cn'] 33)
  rw[World.size_alloc] at this
  exact this
 have HW1:Hid (w1=(w.alloc (.cells #[.bool f,.bool b,.int .i64 st,.string (ba cls),.slice a m ca,.slice an n cn] 33)).alloc (.cells #[.bool f,.bool b,.int .i64 st,.string (ba cls),.slice a' m ca',.slice an' n cn'] 33)):=hw1
 have HST:Hid (∀ w',Below w1.heap.size w1 w'→Below w.heap.size w w'):=fun w' hb=>hB1.trans (hb.mono (by omega))
 have HU:Hid (RowE id w (.slice an n cn) us):=hu
 have HU':Hid (RowE id w (.slice an' n cn') us'):=hu'
 have HR:Hid (∀ j (h1:j<us.length) (h2:j<next.length),RowE eI w us[j] next[j]):=hr
 have HR':Hid (∀ j (h1:j<us'.length) (h2:j<next.length),RowE eI w us'[j] next[j]):=hr'
 have HS3:Hid (∀ r∈next,r.length≤maxLen):=s3
 unfold maxLen at s1 s2
 have HA:Hid (RowE eB w (.slice a m ca) acc):=by show RowE _ _ _ _;rw[hm];exact ha
 have HA':Hid (RowE eB w (.slice a' m ca') acc):=by show RowE _ _ _ _;rw[hm];exact ha'
 clear hw1 hB1 hu hu' hr hr' ha ha' hul hul' hn s3 hm
 have hbeq:(ba cls).toList=cls:=ByteArray.toList_mk cls
 go_enter Tryz.func26,Tryz.ntmps26
 go_wp2
 rw[←HW1.out]
 go_loopw [5] (fun i wr=>∃ k:Nat,i=.int .i64 k∧k≤m∧Below w1.heap.size w1 wr) (fun i _=>m-(intOf i).toNat)
 case atStart=>exact⟨0,rfl,Nat.zero_le _,Below.refl _ _⟩
 case round=>
  obtain⟨k,rfl,hk,hbl⟩:=hrel
  have HBL:Hid (Below w1.heap.size w1 wr):=hbl
  obtain⟨t0,t1,t2,t3,p4,t5⟩:=box6 (HX1.out wr hbl)
  obtain⟨t0',t1',t2',t3',q4,t5'⟩:=box6 (HX2.out wr hbl)
  clear t0 t1 t2 t3 t5 t0' t1' t2' t3' t5'
  by_cases hlt:k<m
  ·have hltI:(k:Int)<m:=by omega
   have hlt1:k<acc.length:=by have:=HM.out;omega
   have hbw:=HST.out wr hbl
   obtain⟨b1,o1,x1,hform,hcell⟩:=(HA.out.below hbw).nonnil (by omega)
   injection hform with e1 e2 e3
   subst e1
   obtain⟨b2,o2,x2,hform',hcell'⟩:=(HA'.out.below hbw).nonnil (by omega)
   injection hform' with e1' e2' e3'
   subst e1'
   have d1:=hcell k hlt1
   have d2:=hcell' k hlt1
   obtain⟨z,hz⟩:∃ z,z=acc[k]:=⟨_,rfl⟩
   rw[←hz] at d1 d2
   clear hcell hcell' e2 e3 e2' e3' hz hbl hbw
   cases z
   all_goals
    go_wp2
    go_quiet (fail)
    go_wp2
    go_roundw
    case rel=>exact⟨k+1,by go_num,by omega,belowQ HBL.out nq⟩
    case measure=>simp[intOf]<;>omega
  ·have hkI:¬(k:Int)<m:=by omega
   clear hbl
   go_wp2
   clear p4 q4 hkI hlt hk
   rename World=>wa
   have HBA:Hid (Below w1.heap.size w1 wa):=HBL.out
   clear HBL
   go_loopw [6,7] (fun i _ wr=>∃ k:Nat,i=.int .i64 k∧k≤n∧Below w1.heap.size w1 wr) (fun i _ _=>n-(intOf i).toNat)
   case atStart=>exact⟨0,rfl,Nat.zero_le _,HBA.out⟩
   case round=>
    obtain⟨k,rfl,hk,hbl⟩:=hrel
    have HBL:Hid (Below w1.heap.size w1 wr):=hbl
    obtain⟨t0,t1,t2,t3,t4,p5⟩:=box6 (HX1.out wr hbl)
    obtain⟨t0',t1',t2',t3',t4',q5⟩:=box6 (HX2.out wr hbl)
    clear t0 t1 t2 t3 t4 t0' t1' t2' t3' t4'
    by_cases hlt:k<n
    ·have hltI:(k:Int)<n:=by omega
     have hl1:k<us.length:=by have:=HN.out;omega
     have hl2:k<us'.length:=by have:=HN.out;omega
     have hl3:k<next.length:=by have:=HN.out;omega
     have hbw:=HST.out wr hbl
     obtain⟨b1,o1,x1,hform,hcell⟩:=(HU.out.below hbw).nonnil (by omega)
     injection hform with e1 e2 e3
     subst e1
     obtain⟨b2,o2,x2,hform',hcell'⟩:=(HU'.out.below hbw).nonnil (by omega)
     injection hform' with e1' e2' e3'
     subst e1'
     have d1:=hcell k hl1
     have d2:=hcell' k hl2
     have r1:=HR.out k hl1 hl3
     have r2:=HR'.out k hl2 hl3
     have hsm:=HS3.out next[k] (List.getElem_mem hl3)
     obtain⟨u1,hu1⟩:∃ u1,u1=us[k]:=⟨_,rfl⟩
     obtain⟨u2,hu2⟩:∃ u2,u2=us'[k]:=⟨_,rfl⟩
     obtain⟨r,hr⟩:∃ r,r=next[k]:=⟨_,rfl⟩
     rw[←hu1] at d1 r1
     rw[←hu2] at d2 r2
     rw[←hr] at r1 r2 hsm
     simp only[id] at d1 d2
     obtain⟨ra,rc,rfl⟩:=r1.form
     obtain⟨ra',rc',rfl⟩:=r2.form
     obtain⟨l,hl⟩:∃ l,l=r.length:=⟨_,rfl⟩
     rw[←hl] at d1 d2 r1 r2 hsm
     unfold maxLen at hsm
     have HL:Hid (l=r.length):=hl
     have HR1:Hid (RowE eI w (.slice ra l rc) r):=r1
     have HR2:Hid (RowE eI w (.slice ra' l rc') r):=r2
     have HD:Hid (∀ W,Below wr.heap.size wr W→W.cell? ⟨w.heap.size,5,none⟩=some (.slice (some ⟨b1,o1,none⟩) n cn)∧W.cell? ⟨w.heap.size+1,5,none⟩=some (.slice (some ⟨b2,o2,none⟩) n cn')∧W.cell? ⟨b1,o1+k,none⟩=some (.slice ra l rc)∧W.cell? ⟨b2,o2+k,none⟩=some (.slice ra' l rc')):=fun W hb=>⟨cell_below hb p5,cell_below hb q5,cell_below hb d1,cell_below hb d2⟩
     clear hcell hcell' e2 e3 e2' e3' hu1 hu2 hr hbl hbw r1 r2 hl hl1 hl2 hl3 hlt
     go_wp2
     go_quiet (fail)
     go_wp2
     clear p5 q5 d1 d2
     rename World=>wo
     have HBO:Hid (Below w1.heap.size w1 (wo.drewN nq)):=belowQ HBL.out nq
     have HD2:Hid (∀ W,Below wo.heap.size (wo.drewN nq) W→Below wo.heap.size wo W):=fun W hb=>(belowQ (Below.refl _ _) nq).trans hb
     have hzo:(wo.drewN nq).heap.size=wo.heap.size:=rfl
     have HZ1:Hid (w1.heap.size≤wo.heap.size):=HBL.out.size
     clear HBL
     go_loopw [7] (fun j wr=>∃ i:Nat,j=.int .i64 i∧i≤l∧Below wo.heap.size (wo.drewN nq) wr) (fun j _=>l-(intOf j).toNat)
     case atStart=>exact⟨0,rfl,Nat.zero_le _,Below.refl _ _⟩
     case round=>
      obtain⟨i,rfl,hi,hbi⟩:=hrel
      have HBI:Hid (Below wo.heap.size (wo.drewN nq) wr):=hbi
      have hbw:=HST.out wr (HBO.out.trans (hbi.mono HZ1.out))
      obtain⟨p5,q5,d1,d2⟩:=HD.out wr (HD2.out wr hbi)
      by_cases hlt:i<l
      ·have hltJ:(i:Int)<l:=by omega
       have hl1:i<r.length:=by have:=HL.out;omega
       obtain⟨b3,o3,x3,hform,hcell⟩:=(HR1.out.below hbw).nonnil (by omega)
       injection hform with e1 e2 e3
       subst e1
       obtain⟨b4,o4,x4,hform',hcell'⟩:=(HR2.out.below hbw).nonnil (by omega)
       injection hform' with e1' e2' e3'
       subst e1'
       have f1:=hcell i hl1
       have f2:=hcell' i hl1
       obtain⟨z,hz⟩:∃ z,z=r[i]:=⟨_,rfl⟩
       rw[←hz] at f1 f2
       clear hcell hcell' e2 e3 e2' e3' hz hbi hbw hl1
       go_wp2
       go_quiet (fail)
       go_wp2
       go_roundw
       case rel=>exact⟨i+1,by go_num,by omega,belowQ HBI.out _⟩
       case measure=>simp[intOf]<;>omega
      ·have hkJ:¬(i:Int)<l:=by omega
       clear hbi hbw
       go_wp2
       go_roundw
       case rel=>exact⟨k+1,by go_num,by omega,HBO.out.trans (HBI.out.mono HZ1.out)⟩
       case measure=>simp[intOf]<;>omega
    ·have hkI:¬(k:Int)<n:=by omega
     clear hbl
     go_wp2
     go_ret
     exact⟨rfl,HST.out _ HBL.out⟩
end Go.Proofs.YtbjabpodkaokjaaGreatDoor
namespace Go.Proofs.YtbjabpodkaokjaaGreatDoor.Sx
def hexv (c:Int):Int:=if 48≤c then(if c≤57 then c-48 else if 97≤c then(if c≤102 then c-97+10 else -1) else -1) else -1
def Md.to (m:Md) (k:Int):Md:={m with M:=k}
def Md.byteItem (m:Md) (v:Int):Md:=
 if 0≤m.Low then(if v<m.Low then m.to 16 else {m with Low:=-1,M:=9})
 else {m with Value:=v,M:=8}
def Md.one (m:Md) (v:Int):Md:=if m.Class then m.byteItem v else m.to 2
def Md.escape (m:Md) (c:Int):Md:=
 if isSignB c||c==45 then m.one c
 else if c==110 then m.one 10
 else if c==116 then m.one 9
 else if c==120 then m.to 4
 else if (c==100||c==119||c==115)&&!m.Class then m.to 2
 else if (c==100||c==119||c==115)&&m.Low<0 then m.to 9
 else m.to 16
def Md.cls (m:Md) (c:Int):Md:=
 if c==94&&m.M==6 then m.to 7
 else if c==92 then {m with Class:=true,M:=3}
 else if c==93&&(m.M==8||m.M==9) then {m with Class:=false,M:=2}
 else if c==45&&m.M==8 then {m with Low:=m.Value,M:=10}
 else if c==91||c==93||c==94||c==45 then m.to 16
 else m.byteItem c
def reachesB (v lo:Int):Bool:=(List.range 31).any fun n=>decide (lo≤n)&&(n==v||(decide (0<v)&&(n:Int) / 10==v))
def Md.count (m:Md) (c:Int):Md:=
 let digit:=decide (48≤c)&&decide (c≤57)
 let v:=(if digit then c-48 else 0)+(if m.M==12||m.M==14 then 10*m.N else 0)
 let lo:=if m.M==13||m.M==14 then m.Least else 0
 let fits:=reachesB v lo
 if digit&&fits&&(m.M==11||m.M==13) then {m with N:=v,M:=m.M+1}
 else if digit&&fits&&decide (0<m.N)&&(m.M==12||m.M==14) then {m with N:=v}
 else if c==44&&m.M==12 then {m with Least:=m.N,M:=13}
 else if c==125&&(m.M==12||m.M==13||(m.M==14&&decide (m.Least≤m.N))) then m.to 2
 else m.to 16
def Md.group (m:Md) (c:Int):Md:=
 if c==40 then {m with Depth:=m.Depth+1,Most:=if m.Most<m.Depth+1 then m.Depth+1 else m.Most,M:=1}
 else if m.Depth==0 then m.to 16
 else {m with Depth:=m.Depth-1,M:=2}
def Md.chain (m:Md) (c:Int):Md:=
 if c==94 then(if m.M==0 then m.to 1 else m.to 16)
 else if c==36 then(if m.Depth==0 then m.to 15 else m.to 16)
 else if c==124 then m.to 1
 else if c==40||c==41 then m.group c
 else if c==91 then {m with Low:=-1,M:=6}
 else if c==92 then {m with Class:=false,Low:=-1,M:=3}
 else if c==42||c==43||c==63 then(if m.M==2 then m else m.to 16)
 else if c==123 then(if m.M==2 then m.to 11 else m.to 16)
 else if c==125||c==93 then m.to 16
 else m.to 2
def Md.step (m:Md) (c:Int):Md:=
 if m.M==0||m.M==1||m.M==2 then m.chain c
 else if m.M==3 then m.escape c
 else if m.M==4 then(if hexv c<0||16*hexv c+15<m.Low then m.to 16 else {m with Value:=hexv c,M:=5})
 else if m.M==5 then(if hexv c<0||16*m.Value+hexv c<m.Low then m.to 16 else m.one (16*m.Value+hexv c))
 else if m.M==6||m.M==7||m.M==8||m.M==9 then m.cls c
 else if m.M==10 then(if c==92 then {m with Class:=true,M:=3} else if c==91||c==93||c==94||c==45 then m.to 16 else m.byteItem c)
 else if m.M==11||m.M==12||m.M==13||m.M==14 then m.count c
 else m.to 16
open Go.RowKit
theorem ret_int {k:IntKind}{a b:Int} (h:a=b):Ending.returned (.int k a)=.returned (.int k b):=by rw[h]
theorem RdAt.drew {w:World}{b:Nat}{s:ByteArray}{k:Nat}{d e:Int} (h:RdAt w b s k d e):RdAt w.drew b s k d e:=⟨h.c0,h.c1,h.c2,h.c3,h.fz,h.lt⟩
theorem RdAt.below {w w':World}{B b:Nat}{s:ByteArray}{k:Nat}{d e:Int} (h:RdAt w b s k d e) (hb:Below B w w') (hB:b<B):RdAt w' b s k d e:=
 ⟨(hb.cell hB).trans h.c0,(hb.cell hB).trans h.c1,(hb.cell hB).trans h.c2,(hb.cell hB).trans h.c3,fun o=>(hb.frozen (p:=⟨b,o,none⟩) hB).trans (h.fz o),Nat.lt_of_lt_of_le h.lt hb.size⟩
theorem ByteRes.mk {w w':World}{b:Nat}{s:ByteArray}{d x:Int}{e:Ending}{R:Res Nat} (h:e=.returned (.tuple #[.int .u8 R.val0,.bool R.isOk])) (hv:R.val0<256) (g:StTo w w' b s R.rest d x):ByteRes w w' b s d x e R:=by
 cases R with
 |ok v r=>exact⟨h,hv,g⟩
 |bad r=>exact⟨0,h,g⟩
open Go
theorem step_append_own {P:Program}{ops:Array Oper}{o:Oper}{a:Act}{w:World}{K:Act→World→Prop}{Q:Exit→Act→World→Prop}{E:Prop}
  (hg:o.guard=none) (s x:Operand) (t:TypeId) (hop:o.op=Op.call {callee:=Callee.builtin Builtin.append,args:=#[s,x],argTypes:=#[t,t]})
  (base:Nat) (e:TypeId) (i:TypeInfo) (z:Value) (size bytes:Nat) (h1:P.underlying t=some (.slice e)) (h2:P.info? e=some i) (h3:i.zero=some z) (h4:i.size=size) (h5:i.bytes=bytes) (h6:z.cells.size=size) (h7:0<size)
  (v:Value) (n:Nat) (xs:List Value) (hs:a.eval s=v) (hown:w.ownsRow base e size v n xs)
  (ad:Addr) (m c:Nat) (news:List Value) (hx:a.eval x=.slice (some ad) m c) (hn:news.length=m*size) (hc:∀ j u,news[j]?=some u→w.cell? (ad.add j)=some u) (h1c:∀ u∈news,u.oneCell'=true)
  (b1:n+m≤maxLen) (b2:(n+m)*bytes≤140737488355328) (hb:base≤w.heap.size)
  (hK:∀ v' w',w'.ownsRow base e size v' (n+m) (xs++news)→w.grownBy w' v.ownBlock→(v'.ownBlock=v.ownBlock∨v'.ownBlock=some w.heap.size)→K (a.put o.dst v') w') :
  if Region.wanted o (yielded ops a.tmps)=true then Oper.wp P o a w K Q else E:=by
 have hw:Region.wanted o (yielded ops a.tmps)=true:=by simp[Region.wanted,hg]
 rw[if_pos hw]
 obtain⟨v',w',hrun,r1,r2,_,r4⟩:=run_append_own_at (P:=P) w base t o.type e i z size bytes h1 h2 h3 h4 h5 h6 h7 v n xs hown ad m c news hn hc h1c b1 b2 hb
 unfold Oper.wp
 simp[execOp,hop,resolve,invoke,builtin,hs,hx,hrun,Result.andThen]
 exact hK v' w' r1 r2 r4
theorem Grew.drew {w w1:World}{v v1:Value} (h:Grew w w1 v v1):Grew w w1.drew v v1:=⟨⟨h.g.os,h.g.tape,h.g.output,h.g.size,h.g.block⟩,h.o⟩
theorem Grew.step {w w1 w2:World}{v v1 v2:Value} (h:Grew w w1 v v1) (g:w1.grownBy w2 v1.ownBlock) (o:v2.ownBlock=v1.ownBlock∨v2.ownBlock=some w1.heap.size):Grew w w2 v v2:=
 h.trans ⟨g,o.imp id fun e=>⟨_,e,Nat.le_refl _⟩⟩
theorem Grew.below {w w1 w2:World}{v v1:Value} (h:Grew w w1 v v1) (b:Go.RowKit.Below w1.heap.size w1 w2):Grew w w2 v v1:=
 h.trans ⟨⟨b.os,b.tape,b.output,b.size,fun k hk _=>b.block k hk⟩,.inl rfl⟩
theorem spanE_ge (S:Nat→Bool) (n h:Nat):h≤spanE S n h:=by
 induction n generalizing h with
 |zero=>exact Nat.le_refl _
 |succ n ih=>
  unfold spanE;split
  ·have:=ih (h+1);omega
  ·exact Nat.le_refl _
theorem spanE_le (S:Nat→Bool) (n h:Nat) (hh:h≤255):spanE S n h≤255:=by
 induction n generalizing h with
 |zero=>exact hh
 |succ n ih=>
  unfold spanE;split
  ·exact ih (h+1) (by omega)
  ·exact hh
theorem spanEnd_any (w:World) (x0 x1 x2 x3 low:Nat) (S:Nat→Bool) (hl:low≤255) (h:Wd x0 x1 x2 x3 S) :
  Calls Tryz.prog 215 #[wv x0 x1 x2 x3,.int .i64 low] w fun e w'=>e=.returned (.int .i64 (spanE S 256 low))∧Below w.heap.size w w':=by
 go_enter Tryz.func215,Tryz.ntmps215
 go_wp2
 go_loopw [5] (fun i wr=>∃ n k:Nat,k≤255∧255<n+k∧i=.int .i64 k∧spanE S n k=spanE S 256 low∧wr.heap[w.heap.size]?=some (.cells #[.int .u64 x0,.int .u64 x1,.int .u64 x2,.int .u64 x3] 226)∧Below w.heap.size w wr∧w.heap.size<wr.heap.size) (fun i _=>256-(intOf i).toNat)
 case atStart=>exact⟨256,low,hl,by omega,rfl,rfl,heap_alloc_new _ _,(Below.refl _ _).alloc (Nat.le_refl _) _,by simp⟩
 case round=>
  obtain⟨n,k,hk,hnk,rfl,hsp,hcell,hbl,hsz⟩:=hrel
  have HSP:Hid (spanE S n k=spanE S 256 low):=hsp
  have HC:Hid (wr.heap[w.heap.size]?=some (.cells #[.int .u64 x0,.int .u64 x1,.int .u64 x2,.int .u64 x3] 226)):=hcell
  have c0:wr.cell? ⟨w.heap.size,0,none⟩=some (.int .u64 x0):=by simp[World.cell?,hcell]
  have c1:wr.cell? ⟨w.heap.size,1,none⟩=some (.int .u64 x1):=by simp[World.cell?,hcell]
  have c2:wr.cell? ⟨w.heap.size,2,none⟩=some (.int .u64 x2):=by simp[World.cell?,hcell]
  have c3:wr.cell? ⟨w.heap.size,3,none⟩=some (.int .u64 x3):=by simp[World.cell?,hcell]
  clear hsp hcell
  obtain⟨n',rfl⟩:∃ n',n=n'+1:=⟨n-1,by omega⟩
  by_cases hlt:k<255
  ·have hlt':(k:Int)<255:=by omega
   have hh:=fun w=>has_any w x0 x1 x2 x3 (k+1) S (by omega) h
   have ec:(((k+1:Nat)):Int)=(k:Int)+1:=by omega
   rw[ec] at hh
   clear ec
   cases hS:S (k+1) with
   |true=>
    rw[hS] at hh
    have HE:Hid (spanE S n' (k+1)=spanE S 256 low):=by
     show _=_
     have:=HSP.out
     rw[spanE,if_pos ⟨hlt,hS⟩] at this;exact this
    clear hS
    go_wp2_with (go_at_call 177;refine(hh _).mono ?_;rintro e w1 ⟨rfl,hb1⟩)
    go_roundw
    case rel=>exact⟨n',k+1,by omega,by omega,by go_num,HE.out,(hb1.block _ hsz).trans HC.out,hbl.trans (hb1.mono (by omega)),Nat.lt_of_lt_of_le hsz hb1.size⟩
    case measure=>simp[intOf];omega
   |false=>
    rw[hS] at hh
    have HE:Hid (k=spanE S 256 low):=by
     show _=_
     have:=HSP.out
     rw[spanE,if_neg (by simp[hS])] at this;exact this
    clear hS
    go_wp2_with (go_at_call 177;refine(hh _).mono ?_;rintro e w1 ⟨rfl,hb1⟩)
    go_ret
    exact⟨ret_int (by rw[←HE.out]),hbl.trans (hb1.mono (by omega))⟩
  ·have HE:Hid (k=spanE S 256 low):=by
    show _=_
    have:=HSP.out
    rw[spanE,if_neg (by omega)] at this;exact this
   have hlt':¬(k:Int)<255:=by omega
   clear hnk hlt
   go_wp2
   go_ret
   exact⟨ret_int (by rw[←HE.out]),hbl⟩
theorem hexS_at (n:Nat) (h:n<16) (h':n<hexS.size):(hexS[n]).toNat=(hexD n).toNat:=by
 have H:∀ i:Fin 16,(hexS[i.val]'(i.isLt)).toNat=(hexD i.val).toNat:=by decide
 exact H ⟨n,h⟩
theorem wrap16 (n:Nat) (h:n<256):IntKind.i64.wrap ((n:Int) / 16)=((n / 16:Nat):Int):=by
 have e:(n:Int) / 16=((n / 16:Nat):Int):=by omega
 rw[e];simp[IntKind.wrap,IntKind.bits,IntKind.signed];omega
theorem tmod16 (n:Nat):((n:Int)).tmod 16=((n%16:Nat):Int):=by
 rw[Int.tmod_eq_emod_of_nonneg (by omega)];omega
theorem two_new (w:World) (x y:Value) (T:TypeId):∀ j u,[x,y][j]?=some u→(w.alloc (.cells #[x,y] T)).drew.cell? ((⟨w.heap.size,0,none⟩:Addr).add j)=some u:=by
 intro j u hj
 match j,hj with
 |0,hj=>simp at hj;subst hj;simp[Addr.add,go_sem]
 |1,hj=>simp at hj;subst hj;simp[Addr.add,go_sem]
theorem three_new (w:World) (x y z:Value) (T:TypeId):∀ j u,[x,y,z][j]?=some u→(w.alloc (.cells #[x,y,z] T)).drew.cell? ((⟨w.heap.size,0,none⟩:Addr).add j)=some u:=by
 intro j u hj
 match j,hj with
 |0,hj=>simp at hj;subst hj;simp[Addr.add,go_sem]
 |1,hj=>simp at hj;subst hj;simp[Addr.add,go_sem]
 |2,hj=>simp at hj;subst hj;simp[Addr.add,go_sem]
theorem appendSpan_1 (w:World) (base:Nat) (v:Value) (bs:List UInt8) (lo hi:Nat) (hlo:lo<256) (hhi:hi<256) (hB:Buf w base v bs) (hb:base≤w.heap.size) (hlen:bs.length≤1000000) (hle:¬ lo<hi) :
  Calls Tryz.prog 216 #[v,.int .i64 lo,.int .i64 hi] w fun e w'=>∃ v',e=.returned v'∧Buf w' base v' (bs++tSpan lo hi)∧Grew w w' v v':=by
 obtain⟨i0,hi0,hz0,hz1,hz2⟩:=info_parts Tryz.infoU8
 have w1:=wrap16 lo hlo
 have w2:=tmod16 lo
 obtain⟨p,hp⟩:∃ p,p=lo / 16:=⟨_,rfl⟩
 obtain⟨q,hq⟩:∃ q,q=lo%16:=⟨_,rfl⟩
 rw[←hp] at w1
 rw[←hq] at w2
 have p1:p<16:=by omega
 have q1:q<16:=by omega
 have p1':(p:Int)<16:=by omega
 have q1':(q:Int)<16:=by omega
 have HT:Hid (tSpan lo hi=[hexD p,hexD q]):=by show _=_;simp[tSpan,hle,hp,hq]
 clear hp hq
 have a1:=hexS_at p p1 p1
 have a2:=hexS_at q q1 q1
 have hle':¬(lo:Int)<hi:=by omega
 have HB:Hid (Buf w base v bs):=hB
 clear hB
 go_enter Tryz.func216,Tryz.ntmps216
 go_wp2
 go_region_law (refine step_append_own rfl (.tmp 7) (.tmp 14) 73 rfl base 5 i0 (.int .u8 0) 1 1 Tryz.underlying73 hi0 hz0 hz1 hz2 rfl (by decide) v bs.length (bs.map bv) rfl (World.ownsRow.drew (HB.out.alloc _)) ⟨w.heap.size,0,none⟩ 2 2 [bv (hexD p),bv (hexD q)] rfl rfl (two_new _ _ _ _) (bv_one [hexD p,hexD q]) (by unfold maxLen;omega) (by omega) (by simp;omega) ?_;intro v' w4 hown4 hgr4 hob4)
 all_goals
  go_wp2
  go_ret
  have hbl:=(((Grew.refl w v).alloc _).drew).step hgr4 (by simpa using hob4)
  refine⟨_,rfl,?_,hbl⟩
  rw[HT.out]
  simpa [Buf] using hown4
theorem appendSpan_2 (w:World) (base:Nat) (v:Value) (bs:List UInt8) (lo hi:Nat) (hlo:lo<256) (hhi:hi<256) (hB:Buf w base v bs) (hb:base≤w.heap.size) (hlen:bs.length≤1000000) (hle:lo<hi) :
  Calls Tryz.prog 216 #[v,.int .i64 lo,.int .i64 hi] w fun e w'=>∃ v',e=.returned v'∧Buf w' base v' (bs++tSpan lo hi)∧Grew w w' v v':=by
 obtain⟨i0,hi0,hz0,hz1,hz2⟩:=info_parts Tryz.infoU8
 have w1:=wrap16 lo hlo
 have w2:=tmod16 lo
 have w1b:=wrap16 hi hhi
 have w2b:=tmod16 hi
 obtain⟨p,hp⟩:∃ p,p=lo / 16:=⟨_,rfl⟩
 obtain⟨q,hq⟩:∃ q,q=lo%16:=⟨_,rfl⟩
 obtain⟨p2,hp2⟩:∃ p,p=hi / 16:=⟨_,rfl⟩
 obtain⟨q2,hq2⟩:∃ q,q=hi%16:=⟨_,rfl⟩
 rw[←hp] at w1
 rw[←hq] at w2
 rw[←hp2] at w1b
 rw[←hq2] at w2b
 have p1:p<16:=by omega
 have q1:q<16:=by omega
 have p3:p2<16:=by omega
 have q3:q2<16:=by omega
 have p1':(p:Int)<16:=by omega
 have q1':(q:Int)<16:=by omega
 have p3':(p2:Int)<16:=by omega
 have q3':(q2:Int)<16:=by omega
 have HT:Hid (tSpan lo hi=[hexD p,hexD q]++[45,hexD p2,hexD q2]):=by show _=_;simp[tSpan,hle,hp,hq,hp2,hq2]
 clear hp hq hp2 hq2
 have a1:=hexS_at p p1 p1
 have a2:=hexS_at q q1 q1
 have a3:=hexS_at p2 p3 p3
 have a4:=hexS_at q2 q3 q3
 have hle':(lo:Int)<hi:=by omega
 have HB:Hid (Buf w base v bs):=hB
 clear hB
 go_enter Tryz.func216,Tryz.ntmps216
 go_wp2
 go_region_law (refine step_append_own rfl (.tmp 7) (.tmp 14) 73 rfl base 5 i0 (.int .u8 0) 1 1 Tryz.underlying73 hi0 hz0 hz1 hz2 rfl (by decide) v bs.length (bs.map bv) rfl (World.ownsRow.drew (HB.out.alloc _)) ⟨w.heap.size,0,none⟩ 2 2 [bv (hexD p),bv (hexD q)] rfl rfl (two_new _ _ _ _) (bv_one [hexD p,hexD q]) (by unfold maxLen;omega) (by omega) (by simp;omega) ?_;intro v' w4 hown4 hgr4 hob4)
 all_goals
  have hbl:=(((Grew.refl w v).alloc _).drew).step hgr4 (by simpa using hob4)
  have HB4:Hid (Buf w4 base v' (bs++[hexD p,hexD q])):=by
   show Buf w4 base v' (bs++[hexD p,hexD q])
   simpa [Buf] using hown4
  have hb4:base≤w4.heap.size:=Nat.le_trans hb hbl.g.size
  clear hown4 hgr4 hob4
  go_wp2
  go_region_law (refine step_append_own rfl (.tmp 19) (.tmp 26) 73 rfl base 5 i0 (.int .u8 0) 1 1 Tryz.underlying73 hi0 hz0 hz1 hz2 rfl (by decide) v' (bs++[hexD p,hexD q]).length ((bs++[hexD p,hexD q]).map bv) rfl (World.ownsRow.drew (HB4.out.alloc _)) ⟨w4.heap.size,0,none⟩ 3 3 [bv 45,bv (hexD p2),bv (hexD q2)] rfl rfl (three_new _ _ _ _ _) (bv_one [45,hexD p2,hexD q2]) (by unfold maxLen;simp;omega) (by simp;omega) (by simp;omega) ?_;intro v5 w5 hown5 hgr5 hob5)
  all_goals
   have hbl5:=((hbl.alloc _).drew).step hgr5 (by simpa using hob5)
   go_wp2
   go_ret
   refine⟨_,rfl,?_,hbl5⟩
   rw[HT.out,←List.append_assoc]
   simpa [Buf] using hown5
theorem appendSpan_any (w:World) (base:Nat) (v:Value) (bs:List UInt8) (lo hi:Nat) (hlo:lo<256) (hhi:hi<256) (hB:Buf w base v bs) (hb:base≤w.heap.size) (hlen:bs.length≤1000000) :
  Calls Tryz.prog 216 #[v,.int .i64 lo,.int .i64 hi] w fun e w'=>∃ v',e=.returned v'∧Buf w' base v' (bs++tSpan lo hi)∧Grew w w' v v':=by
 by_cases h:lo<hi
 ·exact appendSpan_2 w base v bs lo hi hlo hhi hB hb hlen h
 ·exact appendSpan_1 w base v bs lo hi hlo hhi hB hb hlen h
theorem tLoop_end (S:Nat→Bool) (n low:Nat) (b:Bool) (h:256≤low):tLoop S n low b=[]:=by
 cases n with
 |zero=>rfl
 |succ n=>simp[tLoop,h]
theorem buf_below {w w':World}{base:Nat}{v:Value}{bs:List UInt8} (h:Buf w base v bs) (hb:Below w.heap.size w w'):Buf w' base v bs:=by
 refine World.ownsRow.kept h (row:=none) ⟨hb.os,hb.tape,hb.output,hb.size,fun k hk _=>hb.block k hk⟩ ?_
 cases e:v.ownBlock with
 |none=>exact .inl rfl
 |some k=>exact .inr (by simp)
abbrev SetBlk (w:World) (g x0 x1 x2 x3:Nat):Prop:=w.heap[g]?=some (.cells #[.int .u64 x0,.int .u64 x1,.int .u64 x2,.int .u64 x3] 226)
structure BytAt (w wr:World) (base:Nat) (v0 v:Value) (x0 x1 x2 x3:Nat) (S:Nat→Bool) (T0:List UInt8) (n low:Nat) (bl:Bool) (acc:List UInt8):Prop where
 buf:Buf wr base v acc
 grew:Grew w wr v0 v
 blk:SetBlk wr w.heap.size x0 x1 x2 x3
 own:v.ownBlock≠some w.heap.size
 sz:w.heap.size<wr.heap.size
 hlow:low≤256
 fuel:256<n+low
 heq:acc++tLoop S n low bl=T0
theorem appendBytes_any (w:World) (base:Nat) (v:Value) (bs:List UInt8) (x0 x1 x2 x3:Nat) (S:Nat→Bool) (hS:Wd x0 x1 x2 x3 S) (hB:Buf w base v bs) (hb:base≤w.heap.size) (hlen:bs.length+(tBytes S).length≤1000000) :
  Calls Tryz.prog 204 #[v,wv x0 x1 x2 x3] w fun e w'=>∃ v',e=.returned v'∧Buf w' base v' (bs++tBytes S)∧Grew w w' v v':=by
 obtain⟨i0,hi0,hz0,hz1,hz2⟩:=info_parts Tryz.infoU8
 have HB:Hid (Buf w base v bs):=hB
 clear hB
 have hvo:v.ownBlock≠some w.heap.size:=fun e=>by have:=(HB.out.lt _ e).2;omega
 have hl1:bs.length+1≤1000000:=by simp[tBytes] at hlen;omega
 go_enter Tryz.func204,Tryz.ntmps204
 go_wp2_with (at_builtin;refine wpList_append_own_at _ rfl (.tmp 8) (.tmp 9) 73 rfl base 5 i0 (.int .u8 0) 1 1 Tryz.underlying73 hi0 hz0 hz1 hz2 rfl (by decide) v (bs).length ((bs).map bv) rfl ((HB.out.alloc _).alloc _) ⟨w.heap.size+1,0,none⟩ 1 1 [bv 60] rfl rfl (by intro j u hj;cases j with|zero=>(simp at hj;subst hj;simp[Addr.add,go_sem])|succ j=>simp at hj) (bv_one [60]) (by unfold maxLen;omega) (by omega) (by simp;omega) ?_)
 intro v1 w1 hown1 hgr1 _ hob1
 have hG1:Grew w w1 v v1:=(((Grew.refl w v).alloc _).alloc _).step hgr1 (by simpa using hob1)
 have hK1:SetBlk w1 w.heap.size x0 x1 x2 x3:=(hgr1.block w.heap.size (by simp;omega) (fun e=>hvo e.symm)).trans ((Below.heap_alloc _ _ _ (by simp)).trans (heap_alloc_new _ _))
 have hO1:v1.ownBlock≠some w.heap.size:=by
  rcases hob1 with e|e<;>rw[e]
  ·exact hvo
  ·intro q;injection q with q;omega
 have HB1:Hid (Buf w1 base v1 (bs++[60])):=by
  show Buf w1 base v1 (bs++[60])
  simpa [Buf] using hown1
 have hs1:w.heap.size<w1.heap.size:=by have:=hgr1.size;simp at this;omega
 clear hown1 hgr1 hob1
 obtain⟨T0,hT0⟩:∃ T0,T0=bs++[60]++tLoop S 257 0 false:=⟨_,rfl⟩
 have hTl:T0.length+1≤1000000:=by rw[hT0];simp[tBytes] at hlen ⊢;omega
 have HT:Hid (T0=bs++[60]++tLoop S 257 0 false):=hT0
 clear hT0
 go_wp2
 go_loopw [0,5,6] (fun vv bb i wr=>∃(bl:Bool) (n low:Nat) (acc:List UInt8),bb=.bool bl∧i=.int .i64 low∧BytAt w wr base v vv x0 x1 x2 x3 S T0 n low bl acc) (fun _ _ i _=>256-(intOf i).toNat)
 case atStart=>exact⟨false,257,0,bs++[60],rfl,rfl,⟨HB1.out,hG1,hK1,hO1,hs1,by omega,by omega,HT.out.symm⟩⟩
 case round=>
  clear hG1 hK1 hO1 hs1
  obtain⟨bl,n,low,acc,rfl,rfl,⟨hbuf,hgrew,hblk,hown,hsz,hlow,hfuel,heq⟩⟩:=hrel
  have HB2:Hid (Buf wr base u0 acc):=hbuf
  have HK:Hid (SetBlk wr w.heap.size x0 x1 x2 x3):=hblk
  have c0:wr.cell? ⟨w.heap.size,0,none⟩=some (.int .u64 x0):=by simp[World.cell?,hblk]
  have c1:wr.cell? ⟨w.heap.size,1,none⟩=some (.int .u64 x1):=by simp[World.cell?,hblk]
  have c2:wr.cell? ⟨w.heap.size,2,none⟩=some (.int .u64 x2):=by simp[World.cell?,hblk]
  have c3:wr.cell? ⟨w.heap.size,3,none⟩=some (.int .u64 x3):=by simp[World.cell?,hblk]
  have hal:acc.length+(tLoop S n low bl).length=T0.length:=by rw[←heq];simp
  clear hbuf hblk
  obtain⟨n',rfl⟩:∃ n',n=n'+1:=⟨n-1,by omega⟩
  by_cases hlt:low<256
  ·have hlt':(low:Int)<256:=by omega
   have hh:=fun w=>has_any w x0 x1 x2 x3 low S (by omega) hS
   cases hSl:S low with
   |false=>
    rw[hSl] at hh
    have HE:Hid (acc++tLoop S n' (low+1) bl=T0):=by
     show _=_
     rw[←heq,tLoop,if_neg (by omega),if_neg (by simp[hSl])]
    clear hSl heq
    go_wp2_with (go_at_call 177;refine(hh _).mono ?_;rintro e w3 ⟨rfl,hb3⟩)
    go_roundw
    case rel=>exact⟨bl,n',low+1,acc,rfl,by go_num,⟨buf_below HB2.out hb3,hgrew.below hb3,(hb3.block _ hsz).trans HK.out,hown,Nat.lt_of_lt_of_le hsz hb3.size,by omega,by omega,HE.out⟩⟩
    case measure=>simp[intOf];omega
   |true=>
    rw[hSl] at hh
    have hse:=fun w=>spanEnd_any w x0 x1 x2 x3 low S (by omega) hS
    have hge:=spanE_ge S 256 low
    have hle:=spanE_le S 256 low (by omega)
    obtain⟨hi,hhi⟩:∃ hi,hi=spanE S 256 low:=⟨_,rfl⟩
    rw[←hhi] at hse hge hle
    have HL:Hid (tLoop S (n'+1) low bl=(if bl then[32] else[])++tSpan low hi++tLoop S n' (hi+1) true):=by
     show _=_
     rw[tLoop,if_neg (by omega),if_pos hSl,hhi]
    clear hSl hhi
    have hal2:acc.length+1≤1000000:=by omega
    cases bl with
    |false=>
     have HE:Hid (acc++tSpan low hi++tLoop S n' (hi+1) true=T0):=by
      show _=_
      rw[←heq,HL.out];simp
     clear heq hal HL
     go_wp2_with (first|(go_at_call 216;refine(appendSpan_any w5 base u0 (acc) low hi (by omega) (by omega) (buf_below (buf_below HB2.out hb3) hb5) (by omega) (by first|omega|(simp;omega))).mono ?_;rintro e w6 ⟨v6,rfl,hbuf6,hg6⟩;have HB6:Hid _:=hbuf6;clear hbuf6)|(go_at_call 215;refine(hse _).mono ?_;rintro e w5 ⟨rfl,hb5⟩;have hz5:=hb5.size)|(go_at_call 177;refine(hh _).mono ?_;rintro e w3 ⟨rfl,hb3⟩;have hz3:=hb3.size;have hk3:=(hb3.block _ hsz).trans HK.out;have d0:w3.cell? ⟨w.heap.size,0,none⟩=some (.int .u64 x0):=(by simp[World.cell?,hk3]);have d1:w3.cell? ⟨w.heap.size,1,none⟩=some (.int .u64 x1):=(by simp[World.cell?,hk3]);have d2:w3.cell? ⟨w.heap.size,2,none⟩=some (.int .u64 x2):=(by simp[World.cell?,hk3]);have d3:w3.cell? ⟨w.heap.size,3,none⟩=some (.int .u64 x3):=(by simp[World.cell?,hk3]);have HK3:Hid (SetBlk w3 w.heap.size x0 x1 x2 x3):=hk3;clear hk3))
     go_roundw
     case rel=>
      refine⟨true,n',hi+1,acc++tSpan low hi,rfl,by go_num,⟨HB6.out,((hgrew.below hb3).below hb5).trans hg6,?_,?_,?_,by omega,by omega,HE.out⟩⟩
      ·exact(hg6.g.block w.heap.size (by omega) (fun e=>hown e.symm)).trans ((hb5.block _ (by omega)).trans HK3.out)
      ·rcases hg6.o with e|⟨k,e,hk⟩<;>rw[e]
       ·exact hown
       ·intro q;injection q with q;omega
      ·have:=hg6.g.size;omega
     case measure=>simp[intOf];omega
    |true=>
     have HE:Hid (acc++[32]++tSpan low hi++tLoop S n' (hi+1) true=T0):=by
      show _=_
      rw[←heq,HL.out];simp
     clear heq hal HL
     go_wp2_with (first|(at_builtin;refine wpList_append_own_at _ rfl (.tmp 21) (.tmp 22) 73 rfl base 5 i0 (.int .u8 0) 1 1 Tryz.underlying73 hi0 hz0 hz1 hz2 rfl (by decide) u0 (acc).length ((acc).map bv) rfl (((buf_below HB2.out hb3)).alloc _) ⟨w3.heap.size,0,none⟩ 1 1 [bv 32] rfl rfl (by intro j u hj;cases j with|zero=>(simp at hj;subst hj;simp[Addr.add,go_sem])|succ j=>simp at hj) (bv_one [32]) (by unfold maxLen;omega) (by omega) (by simp;omega) ?_)|(go_at_call 177;refine(hh _).mono ?_;rintro e w3 ⟨rfl,hb3⟩;have hz3:=hb3.size;have hk3:=(hb3.block _ hsz).trans HK.out;have d0:w3.cell? ⟨w.heap.size,0,none⟩=some (.int .u64 x0):=(by simp[World.cell?,hk3]);have d1:w3.cell? ⟨w.heap.size,1,none⟩=some (.int .u64 x1):=(by simp[World.cell?,hk3]);have d2:w3.cell? ⟨w.heap.size,2,none⟩=some (.int .u64 x2):=(by simp[World.cell?,hk3]);have d3:w3.cell? ⟨w.heap.size,3,none⟩=some (.int .u64 x3):=(by simp[World.cell?,hk3]);have HK3:Hid (SetBlk w3 w.heap.size x0 x1 x2 x3):=hk3;clear hk3))
     intro v4 w4 hown4 hgr4 _ hob4
     have hG4:Grew w w4 v v4:=((hgrew.below hb3).alloc _).step hgr4 (by simpa using hob4)
     have hk4:SetBlk w4 w.heap.size x0 x1 x2 x3:=(hgr4.block w.heap.size (by simp;omega) (fun e=>hown e.symm)).trans ((Below.heap_alloc _ _ _ (by omega)).trans HK3.out)
     have hO4:v4.ownBlock≠some w.heap.size:=by
      rcases hob4 with e|e<;>rw[e]
      ·exact hown
      ·intro q;injection q with q;omega
     have hs4:w3.heap.size≤w4.heap.size:=by have:=hgr4.size;simp at this;omega
     have HB4:Hid (Buf w4 base v4 (acc++[32])):=by
      show Buf w4 base v4 (acc++[32])
      simpa [Buf] using hown4
     have e0:w4.cell? ⟨w.heap.size,0,none⟩=some (.int .u64 x0):=by simp[World.cell?,hk4]
     have e1:w4.cell? ⟨w.heap.size,1,none⟩=some (.int .u64 x1):=by simp[World.cell?,hk4]
     have e2:w4.cell? ⟨w.heap.size,2,none⟩=some (.int .u64 x2):=by simp[World.cell?,hk4]
     have e3:w4.cell? ⟨w.heap.size,3,none⟩=some (.int .u64 x3):=by simp[World.cell?,hk4]
     have HK4:Hid (SetBlk w4 w.heap.size x0 x1 x2 x3):=hk4
     clear hown4 hgr4 hob4 hk4
     go_wp2_with (first|(go_at_call 216;refine(appendSpan_any w5 base v4 (acc++[32]) low hi (by omega) (by omega) (buf_below HB4.out hb5) (by omega) (by first|omega|(simp;omega))).mono ?_;rintro e w6 ⟨v6,rfl,hbuf6,hg6⟩;have HB6:Hid _:=hbuf6;clear hbuf6)|(go_at_call 215;refine(hse _).mono ?_;rintro e w5 ⟨rfl,hb5⟩;have hz5:=hb5.size))
     go_roundw
     case rel=>
      refine⟨true,n',hi+1,acc++[32]++tSpan low hi,rfl,by go_num,⟨HB6.out,(hG4.below hb5).trans hg6,?_,?_,?_,by omega,by omega,HE.out⟩⟩
      ·exact(hg6.g.block w.heap.size (by omega) (fun e=>hO4 e.symm)).trans ((hb5.block _ (by omega)).trans HK4.out)
      ·rcases hg6.o with e|⟨k,e,hk⟩<;>rw[e]
       ·exact hO4
       ·intro q;injection q with q;omega
      ·have:=hg6.g.size;omega
     case measure=>simp[intOf];omega
  ·have hlt':¬(low:Int)<256:=by omega
   have HE:Hid (acc=T0):=by
    show _=_
    rw[←heq,tLoop_end S _ _ _ (by omega)];simp
   have hl2:acc.length+1≤1000000:=by rw[HE.out];exact hTl
   go_wp2_with (at_builtin;refine wpList_append_own_at _ rfl (.tmp 32) (.tmp 33) 73 rfl base 5 i0 (.int .u8 0) 1 1 Tryz.underlying73 hi0 hz0 hz1 hz2 rfl (by decide) u0 (acc).length ((acc).map bv) rfl (HB2.out.alloc _) ⟨wr.heap.size,0,none⟩ 1 1 [bv 62] rfl rfl (by intro j u hj;cases j with|zero=>(simp at hj;subst hj;simp[Addr.add,go_sem])|succ j=>simp at hj) (bv_one [62]) (by unfold maxLen;omega) (by omega) (by simp;omega) ?_)
   intro v3 w3 hown3 hgr3 _ hob3
   go_wp2
   go_ret
   refine⟨_,rfl,?_,(hgrew.alloc _).step hgr3 (by simpa using hob3)⟩
   have e:bs++tBytes S=acc++[62]:=by rw[HE.out,HT.out];simp[tBytes]
   rw[e]
   simpa [Buf] using hown3
theorem Keeps.drew {x w:World} (h:Keeps x w):Keeps x w.drew:=⟨h.size,h.block⟩
theorem Keeps.below {x w w':World} (h:Keeps x w) (hb:Below w.heap.size w w'):Keeps x w':=h.trans ⟨hb.size,fun g hg _=>hb.block g hg⟩
theorem Out.of_grew {base:Nat}{w w':World}{v v':Value}{bs bs':List UInt8} (hB:Buf w base v bs) (hb:base≤w.heap.size) (hB':Buf w' base v' bs') (hg:Grew w w' v v'):Out base w w' v' bs':=
 ⟨hB',(Below.refl base w).grown hg.g hb (fun k hk=>(hB.lt k hk).1),(Keeps.refl w).grown hB hg.g⟩
theorem Out.below {base:Nat}{x w w':World}{v:Value}{bs:List UInt8} (h:Out base x w v bs) (hb:base≤w.heap.size) (hw:Below w.heap.size w w'):Out base x w' v bs:=⟨buf_below h.buf hw,h.bl.trans (hw.mono hb),h.kp.below hw⟩
theorem small_any (i:Nat) (h:i≤30) (w:World) :
  Calls Tryz.prog 240 #[.int .i64 i] w fun e w'=>e=.returned (.string ⟨(tDec i).toArray⟩)∧w'=w:=by
 have hi:i=0∨i=1∨i=2∨i=3∨i=4∨i=5∨i=6∨i=7∨i=8∨i=9∨i=10∨i=11∨i=12∨i=13∨i=14∨i=15∨i=16∨i=17∨i=18∨i=19∨i=20∨i=21∨i=22∨i=23∨i=24∨i=25∨i=26∨i=27∨i=28∨i=29∨i=30:=by omega
 clear h
 rcases hi with rfl|rfl|rfl|rfl|rfl|rfl|rfl|rfl|rfl|rfl|rfl|rfl|rfl|rfl|rfl|rfl|rfl|rfl|rfl|rfl|rfl|rfl|rfl|rfl|rfl|rfl|rfl|rfl|rfl|rfl|rfl
 all_goals
  go_enter Tryz.func240,Tryz.ntmps240
  go_wp2
  go_ret
  exact⟨by kernel_rfl,rfl⟩
theorem strCells_dec (bs:List UInt8):Lib.strCells ⟨bs.toArray⟩=bs.map bv:=by
 simp[Lib.strCells]
theorem size_dec (bs:List UInt8):(ByteArray.mk bs.toArray).size=bs.length:=by simp[ByteArray.size]
theorem appendUint_any (w:World) (base:Nat) (v:Value) (bs:List UInt8) (i:Nat) (hi:i≤30) (hB:Buf w base v bs) (hb:base≤w.heap.size) (hlen:bs.length≤1000000) :
  Calls Tryz.prog 233 #[v,.int .u64 i,.int .i64 10] w fun e w'=>∃ v',e=.returned v'∧Out base w w' v' (bs++tDec i):=by
 obtain⟨i0,hi0,hz0,hz1,hz2⟩:=info_parts Tryz.infoU8
 have hsm:=fun w=>small_any i hi w
 have HB:Hid (Buf w base v bs):=hB
 have hsd:=size_dec (tDec i)
 have htl:=tDec_len i
 obtain⟨D,hD⟩:∃ D:ByteArray,D=⟨(tDec i).toArray⟩:=⟨_,rfl⟩
 rw[←hD] at hsm hsd
 have HD:Hid (D=⟨(tDec i).toArray⟩):=hD
 have hsz:D.size≤2:=by omega
 clear hB hD hsd
 have h100:(i:Int)<100:=by omega
 go_enter Tryz.func233,Tryz.ntmps233
 go_wp2_with (first|(at_builtin;refine Lib.wpList_append_own_string _ rfl (.tmp 13) (.tmp 16) 73 9 rfl base 5 i0 Tryz.underlying73 Tryz.underlying9 hi0 hz0 hz1 hz2 v bs.length (bs.map bv) rfl HB.out D rfl (by unfold maxLen;omega) (by omega) hb ?_)|(go_at_call 240;refine(hsm _).mono ?_;rintro e w2 ⟨rfl,hw⟩;obtain rfl:=hw.symm))
 intro v' w' hown' hgr' _
 go_wp2
 go_ret
 refine⟨_,rfl,(Out.start HB.out).grown hb hgr' ?_⟩
 have e:=HD.out
 subst e
 rw[strCells_dec,size_dec] at hown'
 simpa [Buf] using hown'
theorem appendInt_in (w:World) (base:Nat) (v:Value) (bs:List UInt8) (i:Nat) (hi:i≤30) (hB:Buf w base v bs) (hb:base≤w.heap.size) (hlen:bs.length≤1000000) :
  Calls Tryz.prog 227 #[v,.int .i64 i,.int .i64 10] w fun e w'=>∃ v',e=.returned v'∧Out base w w' v' (bs++tDec i):=by
 have hu:=appendUint_any w base v bs i hi hB hb hlen
 have HU:Hid (Calls Tryz.prog 233 #[v,.int .u64 i,.int .i64 10] w fun e w'=>∃ v',e=.returned v'∧Out base w w' v' (bs++tDec i)):=hu
 clear hu hB
 have h0:¬(i:Int)<0:=by omega
 have hw:=wrap_small i (by omega)
 go_enter Tryz.func227,Tryz.ntmps227
 go_wp2_with (go_at_call 233;refine HU.out.mono ?_;rintro e w2 ⟨v2,rfl,hO⟩;have HO:Hid _:=hO;clear hO)
 go_ret
 exact⟨_,rfl,HO.out⟩
theorem appendInt_any (w:World) (base:Nat) (v:Value) (bs:List UInt8) (i:Nat) (hi:i≤30) (hB:Buf w base v bs) (hb:base≤w.heap.size) (hlen:bs.length≤1000000) :
  Calls Tryz.prog 217 #[v,.int .i64 i,.int .i64 10] w fun e w'=>∃ v',e=.returned v'∧Out base w w' v' (bs++tDec i):=by
 have hu:=appendInt_in w base v bs i hi hB hb hlen
 have HU:Hid (Calls Tryz.prog 227 #[v,.int .i64 i,.int .i64 10] w fun e w'=>∃ v',e=.returned v'∧Out base w w' v' (bs++tDec i)):=hu
 clear hu hB
 have h0:¬(i:Int)<0:=by omega
 have hw:=wrap_small i (by omega)
 go_enter Tryz.func217,Tryz.ntmps217
 go_wp2_with (go_at_call 227;refine HU.out.mono ?_;rintro e w2 ⟨v2,rfl,hO⟩;have HO:Hid _:=hO;clear hO)
 go_ret
 exact⟨_,rfl,HO.out⟩
abbrev cntV (c:Cnt):Value:=.agg #[.int .u8 c.sign.toNat,.int .i64 c.least,.int .i64 c.most]
theorem appendCount_s (w:World) (base:Nat) (v:Value) (bs:List UInt8) (c:Cnt) (hs:c.sign≠123) (hB:Buf w base v bs) (hb:base≤w.heap.size) (hlen:bs.length+20≤1000000) :
  Calls Tryz.prog 205 #[v,cntV c] w fun e w'=>∃ v',e=.returned v'∧Out base w w' v' (bs++tCount c):=by
 obtain⟨i0,hi0,hz0,hz1,hz2⟩:=info_parts Tryz.infoU8
 obtain⟨sg,le,mo⟩:=c
 have HT:Hid (tCount ⟨sg,le,mo⟩=[sg]):=by show _=_;simp only[tCount];rw[if_neg hs]
 have n1:((sg.toNat:Int) != 123)=true:=by simpa using u8_int (b:=123) hs
 have HO:Hid (Out base w w v bs):=Out.start hB
 clear hB hs
 go_enter Tryz.func205,Tryz.ntmps205
 go_wp2_with (at_builtin;refine wpList_append_own_at _ rfl (.tmp 5) (.tmp 8) 73 rfl base 5 i0 (.int .u8 0) 1 1 Tryz.underlying73 hi0 hz0 hz1 hz2 rfl (by decide) v (bs).length ((bs).map bv) rfl ((HO.out.buf.alloc _).alloc _) ⟨w.heap.size+1,0,none⟩ 1 1 [bv sg] rfl rfl (by intro j u hj;cases j with|zero=>(simp at hj;subst hj;simp[Addr.add,go_sem])|succ j=>simp at hj) (bv_one [sg]) (by unfold maxLen;omega) (by omega) (by simp;omega) ?_)
 intro v1 w1 hown1 hgr1 _ hob1
 have HO1:Hid (Out base w w1 v1 (bs++[sg])):=(HO.out.alloc hb _).app (by simp;omega) hgr1 hown1
 have hk:=HO1.out
 have hblk:w1.heap[w.heap.size]?=some (.cells #[.int .u8 sg.toNat,.int .i64 le,.int .i64 mo] 282):=
  (hgr1.block w.heap.size (by simp;omega) (fun e=>by have:=(HO.out.buf.lt _ e.symm).2;omega)).trans ((Below.heap_alloc _ _ _ (by simp)).trans (heap_alloc_new _ _))
 have c0:w1.cell? ⟨w.heap.size,0,none⟩=some (.int .u8 sg.toNat):=by rw[cell_of hblk];rfl
 clear hown1 hgr1 hob1 hk hblk
 go_wp2
 go_ret
 refine⟨_,rfl,?_⟩
 rw[HT.out];exact HO1.out
theorem lt_of_blk {w:World}{g:Nat}{o:Obj} (h:w.heap[g]?=some o):g<w.heap.size:=by
 rcases Nat.lt_or_ge g w.heap.size with q|q
 ·exact q
 ·simp[Array.getElem?_eq_none q] at h
theorem own_ne {w:World}{base g:Nat}{v:Value}{bs:List UInt8}{cs:Array Value}{T:TypeId}{fr:Nat×Nat} (hB:Buf w base v bs) (hg:w.heap[g]?=some (.cells cs T fr)) (hT:T≠5):v.ownBlock≠some g:=by
 obtain⟨_,hr⟩:=hB
 rcases hr with⟨rfl,_⟩|⟨k,cap,cur,rfl,_,hh,_⟩
 ·simp[Value.ownBlock]
 ·simp only[Value.ownBlock,ne_eq,Option.some.injEq]
  rintro rfl
  rw[hg] at hh;injection hh with e;injection e with _ e _;exact hT e
theorem appendCount_e (w:World) (base:Nat) (v:Value) (bs:List UInt8) (le:Nat) (hle:le≤30) (hB:Buf w base v bs) (hb:base≤w.heap.size) (hlen:bs.length+20≤1000000) :
  Calls Tryz.prog 205 #[v,cntV ⟨123,le,(-1)⟩] w fun e w'=>∃ v',e=.returned v'∧Out base w w' v' (bs++tCount ⟨123,le,(-1)⟩):=by
 obtain⟨i0,hi0,hz0,hz1,hz2⟩:=info_parts Tryz.infoU8
 have HT:Hid (tCount ⟨123,le,(-1)⟩=[123]++tDec le++[44]++[125]):=by show _=_;simp[tCount]
 have HO:Hid (Out base w w v bs):=Out.start hB
 have htl:=tDec_len le
 clear hB
 go_enter Tryz.func205,Tryz.ntmps205
 go_wp2_with (at_builtin;refine wpList_append_own_at _ rfl (.tmp 5) (.tmp 8) 73 rfl base 5 i0 (.int .u8 0) 1 1 Tryz.underlying73 hi0 hz0 hz1 hz2 rfl (by decide) v (bs).length ((bs).map bv) rfl ((HO.out.buf.alloc _).alloc _) ⟨w.heap.size+1,0,none⟩ 1 1 [bv 123] rfl rfl (by intro j u hj;cases j with|zero=>(simp at hj;subst hj;simp[Addr.add,go_sem])|succ j=>simp at hj) (bv_one [123]) (by unfold maxLen;omega) (by omega) (by simp;omega) ?_)
 intro v1 w1 hown1 hgr1 _ hob1
 have HO1:Hid (Out base w w1 v1 (bs++[123])):=(HO.out.alloc hb _).app (by simp;omega) hgr1 hown1
 have hblk:w1.heap[w.heap.size]?=some (.cells #[.int .u8 123,.int .i64 le,.int .i64 (-1)] 282):=
  (hgr1.block w.heap.size (by simp;omega) (fun e=>by have:=(HO.out.buf.lt _ e.symm).2;omega)).trans ((Below.heap_alloc _ _ _ (by simp)).trans (heap_alloc_new _ _))
 have HK1:Hid (w1.heap[w.heap.size]?=some (.cells #[.int .u8 123,.int .i64 le,.int .i64 (-1)] 282)):=hblk
 have c0:w1.cell? ⟨w.heap.size,0,none⟩=some (.int .u8 123):=by rw[cell_of hblk];rfl
 have c1:w1.cell? ⟨w.heap.size,1,none⟩=some (.int .i64 le):=by rw[cell_of hblk];rfl
 have hb1:base≤w1.heap.size:=HO1.out.sz hb
 clear hown1 hgr1 hob1 hblk
 go_wp2_with (first|(at_builtin;refine wpList_append_own_at _ rfl (.tmp 18) (.tmp 19) 73 rfl base 5 i0 (.int .u8 0) 1 1 Tryz.underlying73 hi0 hz0 hz1 hz2 rfl (by decide) v2 (bs++[123]++tDec le).length ((bs++[123]++tDec le).map bv) rfl (HO2.out.buf.alloc _) ⟨w2.heap.size,0,none⟩ 1 1 [bv 44] rfl rfl (by intro j u hj;cases j with|zero=>(simp at hj;subst hj;simp[Addr.add,go_sem])|succ j=>simp at hj) (bv_one [44]) (by unfold maxLen;omega) (by omega) (by simp;omega) ?_)|(go_at_call 217;refine(appendInt_any w1 base v1 (bs++[123]) le hle HO1.out.buf hb1 (by simp;omega)).mono ?_;rintro e w2 ⟨v2,rfl,hO2⟩;have HK2:Hid (w2.heap[w.heap.size]?=some (.cells #[.int .u8 123,.int .i64 le,.int .i64 (-1)] 282)):=hO2.kp.cells HK1.out (by decide);have HO2:Hid (Out base w w2 v2 (bs++[123]++tDec le)):=HO1.out.trans hO2;have hb2:base≤w2.heap.size:=HO2.out.sz hb;have hl3:(bs++[123]++tDec le).length+1≤1000000:=(by simp;omega);have ho2:v2.ownBlock≠some w.heap.size:=(own_ne hO2.buf HK2.out (by decide));clear hO2))
 intro v3 w3 hown3 hgr3 _ hob3
 have HO3:Hid (Out base w w3 v3 (bs++[123]++tDec le++[44])):=HO2.out.app hb2 hgr3 (by simpa using hown3)
 have hz2':w.heap.size<w2.heap.size:=lt_of_blk HK2.out
 have hblk3:=(hgr3.block w.heap.size (by simp;omega) (fun e=>ho2 e.symm)).trans ((Below.heap_alloc _ _ _ hz2').trans HK2.out)
 have HK3:Hid (w3.heap[w.heap.size]?=some (.cells #[.int .u8 123,.int .i64 le,.int .i64 (-1)] 282)):=hblk3
 have e2:w3.cell? ⟨w.heap.size,2,none⟩=some (.int .i64 (-1)):=by rw[cell_of hblk3];rfl
 have hb3:base≤w3.heap.size:=HO3.out.sz hb
 clear hown3 hgr3 hob3 hblk3
 have hl4:(bs++[123]++tDec le++[44]).length+1≤1000000:=by simp;omega
 go_wp2_with (at_builtin;refine wpList_append_own_at _ rfl (.tmp 28) (.tmp 29) 73 rfl base 5 i0 (.int .u8 0) 1 1 Tryz.underlying73 hi0 hz0 hz1 hz2 rfl (by decide) v3 (bs++[123]++tDec le++[44]).length ((bs++[123]++tDec le++[44]).map bv) rfl (HO3.out.buf.alloc _) ⟨w3.heap.size,0,none⟩ 1 1 [bv 125] rfl rfl (by intro j u hj;cases j with|zero=>(simp at hj;subst hj;simp[Addr.add,go_sem])|succ j=>simp at hj) (bv_one [125]) (by unfold maxLen;omega) (by omega) (by simp;omega) ?_)
 intro v5 w5 hown5 hgr5 _ hob5
 have HO5:Hid (Out base w w5 v5 (bs++[123]++tDec le++[44]++[125])):=HO3.out.app hb3 hgr5 (by simpa using hown5)
 clear hown5 hgr5 hob5
 go_wp2
 go_ret
 refine⟨_,rfl,?_⟩
 have e:bs++tCount ⟨123,le,(-1)⟩=bs++[123]++tDec le++[44]++[125]:=by rw[HT.out];simp
 rw[e];exact HO5.out
theorem appendCount_m (w:World) (base:Nat) (v:Value) (bs:List UInt8) (le:Nat) (mo:Nat) (hmo:mo≤30) (hle:le≤30) (hB:Buf w base v bs) (hb:base≤w.heap.size) (hlen:bs.length+20≤1000000) :
  Calls Tryz.prog 205 #[v,cntV ⟨123,le,((mo:Nat):Int)⟩] w fun e w'=>∃ v',e=.returned v'∧Out base w w' v' (bs++tCount ⟨123,le,((mo:Nat):Int)⟩):=by
 obtain⟨i0,hi0,hz0,hz1,hz2⟩:=info_parts Tryz.infoU8
 have HT:Hid (tCount ⟨123,le,((mo:Nat):Int)⟩=[123]++tDec le++[44]++tDec mo++[125]):=by show _=_;simp only[tCount];rw[if_pos trivial,if_neg (by omega)];simp
 have HO:Hid (Out base w w v bs):=Out.start hB
 have htl:=tDec_len le
 have htm:=tDec_len mo
 have hmn:((mo:Int) != -1)=true:=by first|(simp;done)|(simp;omega)
 clear hB
 go_enter Tryz.func205,Tryz.ntmps205
 go_wp2_with (at_builtin;refine wpList_append_own_at _ rfl (.tmp 5) (.tmp 8) 73 rfl base 5 i0 (.int .u8 0) 1 1 Tryz.underlying73 hi0 hz0 hz1 hz2 rfl (by decide) v (bs).length ((bs).map bv) rfl ((HO.out.buf.alloc _).alloc _) ⟨w.heap.size+1,0,none⟩ 1 1 [bv 123] rfl rfl (by intro j u hj;cases j with|zero=>(simp at hj;subst hj;simp[Addr.add,go_sem])|succ j=>simp at hj) (bv_one [123]) (by unfold maxLen;omega) (by omega) (by simp;omega) ?_)
 intro v1 w1 hown1 hgr1 _ hob1
 have HO1:Hid (Out base w w1 v1 (bs++[123])):=(HO.out.alloc hb _).app (by simp;omega) hgr1 hown1
 have hblk:w1.heap[w.heap.size]?=some (.cells #[.int .u8 123,.int .i64 le,.int .i64 ((mo:Nat):Int)] 282):=
  (hgr1.block w.heap.size (by simp;omega) (fun e=>by have:=(HO.out.buf.lt _ e.symm).2;omega)).trans ((Below.heap_alloc _ _ _ (by simp)).trans (heap_alloc_new _ _))
 have HK1:Hid (w1.heap[w.heap.size]?=some (.cells #[.int .u8 123,.int .i64 le,.int .i64 ((mo:Nat):Int)] 282)):=hblk
 have c0:w1.cell? ⟨w.heap.size,0,none⟩=some (.int .u8 123):=by rw[cell_of hblk];rfl
 have c1:w1.cell? ⟨w.heap.size,1,none⟩=some (.int .i64 le):=by rw[cell_of hblk];rfl
 have hb1:base≤w1.heap.size:=HO1.out.sz hb
 clear hown1 hgr1 hob1 hblk
 go_wp2_with (first|(at_builtin;refine wpList_append_own_at _ rfl (.tmp 18) (.tmp 19) 73 rfl base 5 i0 (.int .u8 0) 1 1 Tryz.underlying73 hi0 hz0 hz1 hz2 rfl (by decide) v2 (bs++[123]++tDec le).length ((bs++[123]++tDec le).map bv) rfl (HO2.out.buf.alloc _) ⟨w2.heap.size,0,none⟩ 1 1 [bv 44] rfl rfl (by intro j u hj;cases j with|zero=>(simp at hj;subst hj;simp[Addr.add,go_sem])|succ j=>simp at hj) (bv_one [44]) (by unfold maxLen;omega) (by omega) (by simp;omega) ?_)|(go_at_call 217;refine(appendInt_any w1 base v1 (bs++[123]) le hle HO1.out.buf hb1 (by simp;omega)).mono ?_;rintro e w2 ⟨v2,rfl,hO2⟩;have HK2:Hid (w2.heap[w.heap.size]?=some (.cells #[.int .u8 123,.int .i64 le,.int .i64 ((mo:Nat):Int)] 282)):=hO2.kp.cells HK1.out (by decide);have HO2:Hid (Out base w w2 v2 (bs++[123]++tDec le)):=HO1.out.trans hO2;have hb2:base≤w2.heap.size:=HO2.out.sz hb;have hl3:(bs++[123]++tDec le).length+1≤1000000:=(by simp;omega);have ho2:v2.ownBlock≠some w.heap.size:=(own_ne hO2.buf HK2.out (by decide));clear hO2))
 intro v3 w3 hown3 hgr3 _ hob3
 have HO3:Hid (Out base w w3 v3 (bs++[123]++tDec le++[44])):=HO2.out.app hb2 hgr3 (by simpa using hown3)
 have hz2':w.heap.size<w2.heap.size:=lt_of_blk HK2.out
 have hblk3:=(hgr3.block w.heap.size (by simp;omega) (fun e=>ho2 e.symm)).trans ((Below.heap_alloc _ _ _ hz2').trans HK2.out)
 have HK3:Hid (w3.heap[w.heap.size]?=some (.cells #[.int .u8 123,.int .i64 le,.int .i64 ((mo:Nat):Int)] 282)):=hblk3
 have e2:w3.cell? ⟨w.heap.size,2,none⟩=some (.int .i64 ((mo:Nat):Int)):=by rw[cell_of hblk3];rfl
 have hb3:base≤w3.heap.size:=HO3.out.sz hb
 clear hown3 hgr3 hob3 hblk3
 have hl4:(bs++[123]++tDec le++[44]++tDec mo).length+1≤1000000:=by simp;omega
 go_wp2_with (first|(at_builtin;refine wpList_append_own_at _ rfl (.tmp 28) (.tmp 29) 73 rfl base 5 i0 (.int .u8 0) 1 1 Tryz.underlying73 hi0 hz0 hz1 hz2 rfl (by decide) v4 (bs++[123]++tDec le++[44]++tDec mo).length ((bs++[123]++tDec le++[44]++tDec mo).map bv) rfl (HO4.out.buf.alloc _) ⟨w4.heap.size,0,none⟩ 1 1 [bv 125] rfl rfl (by intro j u hj;cases j with|zero=>(simp at hj;subst hj;simp[Addr.add,go_sem])|succ j=>simp at hj) (bv_one [125]) (by unfold maxLen;omega) (by omega) (by simp;omega) ?_)|(go_at_call 217;refine(appendInt_any w3 base v3 (bs++[123]++tDec le++[44]) mo hmo HO3.out.buf hb3 (by simp;omega)).mono ?_;rintro e w4 ⟨v4,rfl,hO4⟩;have HO4:Hid (Out base w w4 v4 (bs++[123]++tDec le++[44]++tDec mo)):=HO3.out.trans hO4;have hb4:base≤w4.heap.size:=HO4.out.sz hb;clear hO4))
 intro v5 w5 hown5 hgr5 _ hob5
 have HO5:Hid (Out base w w5 v5 (bs++[123]++tDec le++[44]++tDec mo++[125])):=HO4.out.app hb4 hgr5 (by simpa using hown5)
 clear hown5 hgr5 hob5
 go_wp2
 go_ret
 refine⟨_,rfl,?_⟩
 have e:bs++tCount ⟨123,le,((mo:Nat):Int)⟩=bs++[123]++tDec le++[44]++tDec mo++[125]:=by rw[HT.out];simp
 rw[e];exact HO5.out
def okCnt (c:Cnt):Prop:=c.sign≠123∨(0≤c.least∧c.least≤30∧-1≤c.most∧c.most≤30)
theorem appendCount_any (w:World) (base:Nat) (v:Value) (bs:List UInt8) (c:Cnt) (hc:okCnt c) (hB:Buf w base v bs) (hb:base≤w.heap.size) (hlen:bs.length+20≤1000000) :
  Calls Tryz.prog 205 #[v,cntV c] w fun e w'=>∃ v',e=.returned v'∧Out base w w' v' (bs++tCount c):=by
 by_cases hs:c.sign=123
 ·rcases hc with h|⟨h1,h2,h3,h4⟩
  ·exact absurd hs h
  ·obtain⟨sg,le,mo⟩:=c
   simp only at hs h1 h2 h3 h4
   subst hs
   obtain⟨l,rfl⟩:∃ l:Nat,le=l:=⟨le.toNat,by omega⟩
   by_cases hm:mo=-1
   ·subst hm;exact appendCount_e w base v bs l (by omega) hB hb hlen
   ·obtain⟨m,rfl⟩:∃ m:Nat,mo=m:=⟨mo.toNat,by omega⟩
    exact appendCount_m w base v bs l m (by omega) (by omega) hB hb hlen
 ·exact appendCount_s w base v bs c hs hB hb hlen
theorem RowIn.nilForm {w:World}{S:Nat→Prop}{e:TypeId}{size:Nat}{v:Value}{xs:List Value} (h:RowIn w S e size v 0 xs):∃ a c,v=.slice a 0 c:=by
 obtain⟨h1,h2⟩:=h
 rcases h2 with⟨rfl,_⟩|⟨g',cap',cur,hv,_⟩
 ·exact⟨_,_,rfl⟩
 ·exact⟨_,_,hv⟩
theorem cntCells_at (cs:List Cnt) (k:Nat) (hk:k<cs.length):(cs.flatMap cntCells)[k*3]?=some (.int .u8 cs[k].sign.toNat)∧(cs.flatMap cntCells)[k*3+1]?=some (.int .i64 cs[k].least)∧(cs.flatMap cntCells)[k*3+2]?=some (.int .i64 cs[k].most):=by
 induction cs generalizing k with
 |nil=>simp at hk
 |cons c cs ih=>
  cases k with
  |zero=>simp[cntCells]
  |succ k=>
   have:=ih k (by simpa using hk)
   have e1:(k+1)*3=k*3+3:=by omega
   simp only[e1,List.flatMap_cons,List.getElem_cons_succ]
   simp only[cntCells] at this ⊢
   simpa using this
theorem flat_take (cs:List Cnt) (k:Nat):((cs.take k).flatMap tCount).length≤20*k:=by
 have h2:=flat_len (cs.take k)
 have h3:(cs.take k).length≤k:=List.length_take_le _ _
 omega
theorem appendPart_b (w:World) (base:Nat) (v:Value) (bs:List UInt8) (x0 x1 x2 x3:Nat) (g2:Option Addr) (n2 c2:Nat) (cs:List Cnt) (hcs:∀ c∈cs,okCnt c) (hrow:RowIn w (fun g=>g<base) 282 3 (.slice g2 n2 c2) cs.length (cs.flatMap cntCells)) (ga:Option Addr) (gc:Nat) (S0:Nat→Bool) (hS:Wd x0 x1 x2 x3 S0) (hB:Buf w base v bs) (hb:base≤w.heap.size) (hlen:bs.length+(tBytes S0).length+20*cs.length+20≤900000) :
  Calls Tryz.prog 191 #[v,.agg #[.slice ga 0 gc,.int .u64 x0,.int .u64 x1,.int .u64 x2,.int .u64 x3,.slice g2 n2 c2]] w fun e w'=>∃ v',e=.returned v'∧Out base w w' v' (bs++tBytes S0++cs.flatMap tCount):=by
 have hn2:n2=cs.length:=by
  rcases Nat.eq_zero_or_pos cs.length with q|q
  ·rw[q] at hrow
   obtain⟨a,c,e⟩:=hrow.nilForm
   injection e with _ e _;omega
  ·obtain⟨g,cap,e,_⟩:=hrow.form q
   injection e with _ e _
 subst hn2
 have HB:Hid (Buf w base v bs):=hB
 have HR:Hid (RowIn w (fun g=>g<base) 282 3 (.slice g2 cs.length c2) cs.length (cs.flatMap cntCells)):=hrow
 clear hB hrow
 go_enter Tryz.func191,Tryz.ntmps191
 go_wp2_with (go_at_call 204;refine(appendBytes_any _ base v bs x0 x1 x2 x3 S0 hS (HB.out.alloc _) (by simp;omega) (by omega)).mono ?_;rintro e w1 ⟨v1,rfl,hbuf1,hg1⟩;have hO1':=Out.of_grew (HB.out.alloc _) (by simp;omega) hbuf1 hg1;have HK1:Hid (w1.heap[w.heap.size]?=some (.cells #[.slice ga 0 gc,.int .u64 x0,.int .u64 x1,.int .u64 x2,.int .u64 x3,.slice g2 cs.length c2] 231)):=hO1'.kp.cells (heap_alloc_new _ _) (by decide);have HO1:Hid (Out base w w1 v1 (bs++tBytes S0)):=((Out.start HB.out).alloc hb _).trans hO1';have k5:w1.cell? ⟨w.heap.size,5,none⟩=some (.slice g2 cs.length c2):=(by rw[cell_of HK1.out];rfl);clear hO1')
 have hb1:base≤w1.heap.size:=HO1.out.sz hb
 have hz1:w.heap.size<w1.heap.size:=lt_of_blk HK1.out
 go_loopw [0,25] (fun vv i wr=>∃ k:Nat,k≤cs.length∧i=.int .i64 k∧Out base w wr vv (bs++tBytes S0++(cs.take k).flatMap tCount)) (fun _ i _=>cs.length-(intOf i).toNat)
 case atStart=>exact⟨0,Nat.zero_le _,rfl,by simpa using HO1.out⟩
 case round=>
  clear k5
  obtain⟨k,hk,rfl,hO⟩:=hrel
  have hbr:base≤wr.heap.size:=hO.sz hb
  have HO:Hid (Out base w wr u0 (bs++tBytes S0++(cs.take k).flatMap tCount)):=hO
  clear hO
  by_cases hlt:k<cs.length
  ·obtain⟨g,cap,hvf,hSg,hcap,hmax⟩:=HR.out.form (by omega)
   injection hvf with e1 _ e3
   subst e1
   obtain⟨a0,a1,a2⟩:=cntCells_at cs k hlt
   have hrow:=HR.out.of_heap (w':=wr) (S':=fun g=>g<base) (fun j hj hl=>⟨hj,HO.out.bl.block j hj⟩)
   rw[e3] at hrow
   have b0:=(hrow.cell (k*3) (by omega)).trans a0
   have b1:=(hrow.cell (k*3+1) (by omega)).trans a1
   have b2:=(hrow.cell (k*3+2) (by omega)).trans a2
   obtain⟨C,hC⟩:∃ C,C=cs[k]:=⟨_,rfl⟩
   rw[←hC] at b0 b1 b2
   have hok:okCnt C:=by rw[hC];exact hcs _ (List.getElem_mem hlt)
   have hlk:=flat_take cs k
   have HS:Hid ((cs.take (k+1)).flatMap tCount=(cs.take k).flatMap tCount++tCount C):=by
    show _=_
    rw[hC];exact flat_snoc cs k hlt
   obtain⟨sg,le,mo⟩:=C
   simp only at b0 b1 b2
   clear a0 a1 a2 hrow hC e3
   go_wp2_with (go_at_call 205;refine(appendCount_any _ base u0 (bs++tBytes S0++(cs.take k).flatMap tCount) ⟨sg,le,mo⟩ hok (HO.out.buf.alloc _) (by simp;omega) (by rw[List.length_append,List.length_append];omega)).mono ?_;rintro e w3 ⟨v3,rfl,hO3⟩;have HO3:Hid (Out base w w3 v3 (bs++tBytes S0++(cs.take k).flatMap tCount++tCount ⟨sg,le,mo⟩)):=(HO.out.alloc hbr _).trans hO3;clear hO3)
   go_roundw
   case rel=>exact⟨k+1,by omega,by go_num,by rw[HS.out,←List.append_assoc];exact HO3.out⟩
   case measure=>simp[intOf];omega
  ·have hk':k=cs.length:=by omega
   have HT:Hid (cs.take k=cs):=List.take_of_length_le (by omega)
   go_wp2
   go_ret
   have:=HO.out
   rw[HT.out] at this
   exact⟨_,rfl,this⟩
theorem appendPart_g (w:World) (base:Nat) (v:Value) (bs:List UInt8) (x0 x1 x2 x3:Nat) (g2:Option Addr) (n2 c2:Nat) (cs:List Cnt) (hcs:∀ c∈cs,okCnt c) (hrow:RowIn w (fun g=>g<base) 282 3 (.slice g2 n2 c2) cs.length (cs.flatMap cntCells)) (g1:Addr) (n1 c1:Nat) (hn1:0<n1) (T1:List UInt8) (hG:∀ w':World,Below base w w'→∀(v:Value) (bs:List UInt8),Buf w' base v bs→base≤w'.heap.size→bs.length+T1.length≤850000→Calls Tryz.prog 98 #[v,.slice (some g1) n1 c1] w' fun e w''=>∃ v',e=.returned v'∧Out base w' w'' v' (bs++T1)) (hl2:bs.length+T1.length≤850000) (hB:Buf w base v bs) (hb:base≤w.heap.size) (hlen:bs.length+(T1).length+20*cs.length+20≤900000) :
  Calls Tryz.prog 191 #[v,.agg #[.slice (some g1) n1 c1,.int .u64 x0,.int .u64 x1,.int .u64 x2,.int .u64 x3,.slice g2 n2 c2]] w fun e w'=>∃ v',e=.returned v'∧Out base w w' v' (bs++T1++cs.flatMap tCount):=by
 have hn2:n2=cs.length:=by
  rcases Nat.eq_zero_or_pos cs.length with q|q
  ·rw[q] at hrow
   obtain⟨a,c,e⟩:=hrow.nilForm
   injection e with _ e _;omega
  ·obtain⟨g,cap,e,_⟩:=hrow.form q
   injection e with _ e _
 subst hn2
 have HB:Hid (Buf w base v bs):=hB
 have HR:Hid (RowIn w (fun g=>g<base) 282 3 (.slice g2 cs.length c2) cs.length (cs.flatMap cntCells)):=hrow
 clear hB hrow
 have HG:Hid _:=hG
 clear hG
 have hn1':(0:Int)<n1:=by omega
 go_enter Tryz.func191,Tryz.ntmps191
 go_wp2_with (go_at_call 98;refine(HG.out _ ((Below.refl base w).alloc hb _) v bs (HB.out.alloc _) (by simp;omega) (by omega)).mono ?_;rintro e w1 ⟨v1,rfl,hO1'⟩;have HK1:Hid (w1.heap[w.heap.size]?=some (.cells #[.slice (some g1) n1 c1,.int .u64 x0,.int .u64 x1,.int .u64 x2,.int .u64 x3,.slice g2 cs.length c2] 231)):=hO1'.kp.cells (heap_alloc_new _ _) (by decide);have HO1:Hid (Out base w w1 v1 (bs++T1)):=((Out.start HB.out).alloc hb _).trans hO1';have k5:w1.cell? ⟨w.heap.size,5,none⟩=some (.slice g2 cs.length c2):=(by rw[cell_of HK1.out];rfl);clear hO1')
 have hb1:base≤w1.heap.size:=HO1.out.sz hb
 have hz1:w.heap.size<w1.heap.size:=lt_of_blk HK1.out
 go_loopw [0,25] (fun vv i wr=>∃ k:Nat,k≤cs.length∧i=.int .i64 k∧Out base w wr vv (bs++T1++(cs.take k).flatMap tCount)) (fun _ i _=>cs.length-(intOf i).toNat)
 case atStart=>exact⟨0,Nat.zero_le _,rfl,by simpa using HO1.out⟩
 case round=>
  clear k5
  obtain⟨k,hk,rfl,hO⟩:=hrel
  have hbr:base≤wr.heap.size:=hO.sz hb
  have HO:Hid (Out base w wr u0 (bs++T1++(cs.take k).flatMap tCount)):=hO
  clear hO
  by_cases hlt:k<cs.length
  ·obtain⟨g,cap,hvf,hSg,hcap,hmax⟩:=HR.out.form (by omega)
   injection hvf with e1 _ e3
   subst e1
   obtain⟨a0,a1,a2⟩:=cntCells_at cs k hlt
   have hrow:=HR.out.of_heap (w':=wr) (S':=fun g=>g<base) (fun j hj hl=>⟨hj,HO.out.bl.block j hj⟩)
   rw[e3] at hrow
   have b0:=(hrow.cell (k*3) (by omega)).trans a0
   have b1:=(hrow.cell (k*3+1) (by omega)).trans a1
   have b2:=(hrow.cell (k*3+2) (by omega)).trans a2
   obtain⟨C,hC⟩:∃ C,C=cs[k]:=⟨_,rfl⟩
   rw[←hC] at b0 b1 b2
   have hok:okCnt C:=by rw[hC];exact hcs _ (List.getElem_mem hlt)
   have hlk:=flat_take cs k
   have HS:Hid ((cs.take (k+1)).flatMap tCount=(cs.take k).flatMap tCount++tCount C):=by
    show _=_
    rw[hC];exact flat_snoc cs k hlt
   obtain⟨sg,le,mo⟩:=C
   simp only at b0 b1 b2
   clear a0 a1 a2 hrow hC e3
   go_wp2_with (go_at_call 205;refine(appendCount_any _ base u0 (bs++T1++(cs.take k).flatMap tCount) ⟨sg,le,mo⟩ hok (HO.out.buf.alloc _) (by simp;omega) (by rw[List.length_append,List.length_append];omega)).mono ?_;rintro e w3 ⟨v3,rfl,hO3⟩;have HO3:Hid (Out base w w3 v3 (bs++T1++(cs.take k).flatMap tCount++tCount ⟨sg,le,mo⟩)):=(HO.out.alloc hbr _).trans hO3;clear hO3)
   go_roundw
   case rel=>exact⟨k+1,by omega,by go_num,by rw[HS.out,←List.append_assoc];exact HO3.out⟩
   case measure=>simp[intOf];omega
  ·have hk':k=cs.length:=by omega
   have HT:Hid (cs.take k=cs):=List.take_of_length_le (by omega)
   go_wp2
   go_ret
   have:=HO.out
   rw[HT.out] at this
   exact⟨_,rfl,this⟩
abbrev PartTxt (base:Nat) (w:World) (val:Value) (T:List UInt8):Prop:=
 ∀ w':World,Below base w w'→∀(v:Value) (bs:List UInt8),Buf w' base v bs→base≤w'.heap.size→bs.length+T.length≤850000→Calls Tryz.prog 191 #[v,val] w' fun e w''=>∃ v',e=.returned v'∧Out base w' w'' v' (bs++T)
theorem appendChain_0 (w:World) (base:Nat) (v:Value) (bs:List UInt8) (a:Option Addr) (c:Nat) (hB:Buf w base v bs) (hb:base≤w.heap.size) (hlen:bs.length+1≤850000) :
  Calls Tryz.prog 160 #[v,.slice a 0 c] w fun e w'=>∃ v',e=.returned v'∧Out base w w' v' (bs++[101]):=by
 obtain⟨i0,hi0,hz0,hz1,hz2⟩:=info_parts Tryz.infoU8
 have HO:Hid (Out base w w v bs):=Out.start hB
 clear hB
 go_enter Tryz.func160,Tryz.ntmps160
 go_wp2_with (at_builtin;refine wpList_append_own_at _ rfl (.tmp 11) (.tmp 12) 73 rfl base 5 i0 (.int .u8 0) 1 1 Tryz.underlying73 hi0 hz0 hz1 hz2 rfl (by decide) v (bs).length ((bs).map bv) rfl (HO.out.buf.alloc _) ⟨w.heap.size,0,none⟩ 1 1 [bv 101] rfl rfl (by intro j u hj;cases j with|zero=>(simp at hj;subst hj;simp[Addr.add,go_sem])|succ j=>simp at hj) (bv_one [101]) (by unfold maxLen;omega) (by omega) (by simp;omega) ?_)
 intro v1 w1 hown1 hgr1 _ hob1
 have HO1:Hid (Out base w w1 v1 (bs++[101])):=HO.out.app hb hgr1 hown1
 clear hown1 hgr1 hob1
 go_wp2
 go_ret
 exact⟨_,rfl,HO1.out⟩
theorem appendChain_1 (w:World) (base:Nat) (v:Value) (bs:List UInt8) (g c:Nat) (s:SixV) (T:List UInt8) (hrow:RowIn w (fun g=>g<base) 231 6 (.slice (some ⟨g,0,none⟩) 1 c) 1 (([s].map SixV.cells).flatten)) (hP:PartTxt base w s.val T) (hB:Buf w base v bs) (hb:base≤w.heap.size) (hlen:bs.length+T.length≤850000) :
  Calls Tryz.prog 160 #[v,.slice (some ⟨g,0,none⟩) 1 c] w fun e w'=>∃ v',e=.returned v'∧Out base w w' v' (bs++T):=by
 have hx:=hP w (Below.refl _ _) v bs hB hb hlen
 have HX:Hid (Calls Tryz.prog 191 #[v,s.val] w fun e w''=>∃ v',e=.returned v'∧Out base w w'' v' (bs++T)):=hx
 clear hx hP hB
 have e0:=(hrow.cell 0 (by omega)).trans (six_at [s] 0 (by simp) 0 (by omega))
 have e1:=(hrow.cell 1 (by omega)).trans (six_at [s] 0 (by simp) 1 (by omega))
 have e2:=(hrow.cell 2 (by omega)).trans (six_at [s] 0 (by simp) 2 (by omega))
 have e3:=(hrow.cell 3 (by omega)).trans (six_at [s] 0 (by simp) 3 (by omega))
 have e4:=(hrow.cell 4 (by omega)).trans (six_at [s] 0 (by simp) 4 (by omega))
 have e5:=(hrow.cell 5 (by omega)).trans (six_at [s] 0 (by simp) 5 (by omega))
 obtain⟨q0,q1,q2,y0,y1,y2,y3,r0,r1,r2⟩:=s
 simp[SixV.cells] at e0 e1 e2 e3 e4 e5
 clear hrow
 go_enter Tryz.func160,Tryz.ntmps160
 go_wp2_with (go_at_call 191;refine HX.out.mono ?_;rintro e w1 ⟨v1,rfl,hO1⟩;have HO1:Hid _:=hO1;clear hO1)
 go_ret
 exact⟨_,rfl,HO1.out⟩
theorem flatten_take_le (Ts:List (List UInt8)) (k:Nat) (h:k<Ts.length):((Ts.take k).flatten).length+(Ts[k]).length≤(Ts.flatten).length:=by
 induction Ts generalizing k with
 |nil=>simp at h
 |cons t Ts ih=>
  cases k with
  |zero=>simp
  |succ k=>
   have:=ih k (by simpa using h)
   simp only[List.take_succ_cons,List.flatten_cons,List.length_append,List.getElem_cons_succ];omega
theorem flatten_snoc (Ts:List (List UInt8)) (k:Nat) (h:k<Ts.length):(Ts.take (k+1)).flatten=(Ts.take k).flatten++Ts[k]:=by
 rw[List.take_succ_eq_append_getElem h,List.flatten_append];simp
theorem appendChain_n (w:World) (base:Nat) (v:Value) (bs:List UInt8) (g c:Nat) (vs:List SixV) (Ts:List (List UInt8)) (hl:Ts.length=vs.length) (hn:2≤vs.length) (hmax:vs.length≤1000)
  (hrow:RowIn w (fun g=>g<base) 231 6 (.slice (some ⟨g,0,none⟩) vs.length c) vs.length ((vs.map SixV.cells).flatten))
  (hP:∀(k:Nat) (h1:k<vs.length) (h2:k<Ts.length),PartTxt base w vs[k].val Ts[k]) (hB:Buf w base v bs) (hb:base≤w.heap.size) (hlen:bs.length+Ts.flatten.length+2≤850000) :
  Calls Tryz.prog 160 #[v,.slice (some ⟨g,0,none⟩) vs.length c] w fun e w'=>∃ v',e=.returned v'∧Out base w w' v' (bs++[40]++Ts.flatten++[41]):=by
 obtain⟨i0,hi0,hz0,hz1,hz2⟩:=info_parts Tryz.infoU8
 have HO:Hid (Out base w w v bs):=Out.start hB
 have HR:Hid (RowIn w (fun g=>g<base) 231 6 (.slice (some ⟨g,0,none⟩) vs.length c) vs.length ((vs.map SixV.cells).flatten)):=hrow
 have HP:Hid (∀(k:Nat) (h1:k<vs.length) (h2:k<Ts.length),PartTxt base w vs[k].val Ts[k]):=hP
 clear hB hrow hP
 have m0:((vs.length:Int)==0)=false:=beq_eq_false_iff_ne.2 (by omega)
 have m1:((vs.length:Int)==1)=false:=beq_eq_false_iff_ne.2 (by omega)
 go_enter Tryz.func160,Tryz.ntmps160
 go_wp2_with (at_builtin;refine wpList_append_own_at _ rfl (.tmp 21) (.tmp 22) 73 rfl base 5 i0 (.int .u8 0) 1 1 Tryz.underlying73 hi0 hz0 hz1 hz2 rfl (by decide) v (bs).length ((bs).map bv) rfl (HO.out.buf.alloc _) ⟨w.heap.size,0,none⟩ 1 1 [bv 40] rfl rfl (by intro j u hj;cases j with|zero=>(simp at hj;subst hj;simp[Addr.add,go_sem])|succ j=>simp at hj) (bv_one [40]) (by unfold maxLen;omega) (by omega) (by simp;omega) ?_)
 intro v1 w1 hown1 hgr1 _ hob1
 have HO1:Hid (Out base w w1 v1 (bs++[40])):=HO.out.app hb hgr1 hown1
 clear hown1 hgr1 hob1
 go_wp2
 go_loopw [0,26] (fun vv i wr=>∃ k:Nat,k≤vs.length∧i=.int .i64 k∧Out base w wr vv (bs++[40]++(Ts.take k).flatten)) (fun _ i _=>vs.length-(intOf i).toNat)
 case atStart=>exact⟨0,Nat.zero_le _,rfl,by simpa using HO1.out⟩
 case round=>
  obtain⟨k,hk,rfl,hO⟩:=hrel
  have hbr:base≤wr.heap.size:=hO.sz hb
  have HO2:Hid (Out base w wr u0 (bs++[40]++(Ts.take k).flatten)):=hO
  clear hO
  by_cases hlt:k<vs.length
  ·have hlt2:k<Ts.length:=by omega
   have hrow:=HR.out.of_heap (w':=wr) (S':=fun g=>g<base) (fun j hj hl=>⟨hj,HO2.out.bl.block j hj⟩)
   have e0:=(hrow.cell (k*6+0) (by omega)).trans (six_at vs k hlt 0 (by omega))
   have e1:=(hrow.cell (k*6+1) (by omega)).trans (six_at vs k hlt 1 (by omega))
   have e2:=(hrow.cell (k*6+2) (by omega)).trans (six_at vs k hlt 2 (by omega))
   have e3:=(hrow.cell (k*6+3) (by omega)).trans (six_at vs k hlt 3 (by omega))
   have e4:=(hrow.cell (k*6+4) (by omega)).trans (six_at vs k hlt 4 (by omega))
   have e5:=(hrow.cell (k*6+5) (by omega)).trans (six_at vs k hlt 5 (by omega))
   have hx:=HP.out k hlt hlt2
   have htl:=flatten_take_le Ts k hlt2
   have HS:Hid ((Ts.take (k+1)).flatten=(Ts.take k).flatten++Ts[k]):=flatten_snoc Ts k hlt2
   obtain⟨T,hT⟩:∃ T,T=Ts[k]:=⟨_,rfl⟩
   rw[←hT] at hx htl HS
   obtain⟨s,hs⟩:∃ s,s=vs[k]:=⟨_,rfl⟩
   rw[←hs] at hx e0 e1 e2 e3 e4 e5
   clear hT hs hrow
   obtain⟨q0,q1,q2,y0,y1,y2,y3,r0,r1,r2⟩:=s
   simp[SixV.cells] at e0 e1 e2 e3 e4 e5
   have hbd:(bs++[40]++(Ts.take k).flatten).length+T.length≤850000:=by rw[List.length_append,List.length_append,List.length_singleton];omega
   have HX:Hid (PartTxt base w (SixV.val ⟨q0,q1,q2,y0,y1,y2,y3,r0,r1,r2⟩) T):=hx
   clear hx
   go_wp2_with (go_at_call 191;refine(HX.out _ (HO2.out.bl.alloc hbr _) u0 (bs++[40]++(Ts.take k).flatten) (HO2.out.buf.alloc _) (by simp;omega) hbd).mono ?_;rintro e w3 ⟨v3,rfl,hO3⟩;have HO3:Hid (Out base w w3 v3 (bs++[40]++(Ts.take k).flatten++T)):=(HO2.out.alloc hbr _).trans hO3;clear hO3)
   go_roundw
   case rel=>exact⟨k+1,by omega,by go_num,by rw[HS.out,←List.append_assoc];exact HO3.out⟩
   case measure=>simp[intOf];omega
  ·have HT:Hid (Ts.take k=Ts):=List.take_of_length_le (by omega)
   have hl5:(bs++[40]++(Ts.take k).flatten).length+1≤1000000:=by rw[HT.out,List.length_append,List.length_append,List.length_singleton];omega
   go_wp2_with (at_builtin;refine wpList_append_own_at _ rfl (.tmp 34) (.tmp 35) 73 rfl base 5 i0 (.int .u8 0) 1 1 Tryz.underlying73 hi0 hz0 hz1 hz2 rfl (by decide) u0 (bs++[40]++(Ts.take k).flatten).length ((bs++[40]++(Ts.take k).flatten).map bv) rfl (HO2.out.buf.alloc _) ⟨wr.heap.size,0,none⟩ 1 1 [bv 41] rfl rfl (by intro j u hj;cases j with|zero=>(simp at hj;subst hj;simp[Addr.add,go_sem])|succ j=>simp at hj) (bv_one [41]) (by unfold maxLen;omega) (by omega) (by simp;omega) ?_)
   intro v5 w5 hown5 hgr5 _ hob5
   have HO5:Hid (Out base w w5 v5 (bs++[40]++(Ts.take k).flatten++[41])):=HO2.out.app hbr hgr5 (by simpa using hown5)
   clear hown5 hgr5 hob5
   go_wp2
   go_ret
   have:=HO5.out
   rw[HT.out] at this
   exact⟨_,rfl,this⟩
def barJ:List (List UInt8)→List UInt8
 |[]=>[]
 |t::ts=>[40]++t++ts.flatMap fun t=>[124]++t
theorem barJ_snoc (Ts:List (List UInt8)) (k:Nat) (h:k<Ts.length):barJ (Ts.take (k+1))=barJ (Ts.take k)++(if k=0 then[40] else[124])++Ts[k]:=by
 cases Ts with
 |nil=>simp at h
 |cons t ts=>
  cases k with
  |zero=>simp[barJ]
  |succ k=>
   have h':k<ts.length:=by simpa using h
   simp only[List.take_succ_cons,barJ,List.getElem_cons_succ]
   rw[List.take_succ_eq_append_getElem h',List.flatMap_append]
   simp
theorem barJ_len (Ts:List (List UInt8)):(barJ Ts).length=Ts.flatten.length+Ts.length:=by
 cases Ts with
 |nil=>rfl
 |cons t ts=>
  have:∀ l:List (List UInt8),(l.flatMap fun t=>[124]++t).length=l.flatten.length+l.length:=by
   intro l
   induction l with
   |nil=>rfl
   |cons a l ih=>rw[List.flatMap_cons,List.length_append,ih,List.flatten_cons,List.length_append,List.length_append];simp;omega
  simp only[barJ,List.length_append,this,List.flatten_cons,List.length_cons];simp;omega
theorem barJ_take_le (Ts:List (List UInt8)) (k:Nat) (h:k<Ts.length):(barJ (Ts.take k)).length+1+(Ts[k]).length≤Ts.flatten.length+Ts.length:=by
 rw[barJ_len]
 have:=flatten_take_le Ts k h
 have h2:(Ts.take k).length=k:=by simp;omega
 omega
abbrev ChainTxt (base:Nat) (w:World) (val:Value) (T:List UInt8):Prop:=
 ∀ w':World,Below base w w'→∀(v:Value) (bs:List UInt8),Buf w' base v bs→base≤w'.heap.size→bs.length+T.length≤850000→Calls Tryz.prog 160 #[v,val] w' fun e w''=>∃ v',e=.returned v'∧Out base w' w'' v' (bs++T)
theorem appendChoices_1 (w:World) (base:Nat) (v:Value) (bs:List UInt8) (g c:Nat) (a:Option Addr) (n1 c1:Nat) (T:List UInt8) (hrow:RowIn w (fun g=>g<base) 225 1 (.slice (some ⟨g,0,none⟩) 1 c) 1 [.slice a n1 c1]) (hP:ChainTxt base w (.slice a n1 c1) T) (hB:Buf w base v bs) (hb:base≤w.heap.size) (hlen:bs.length+T.length≤850000) :
  Calls Tryz.prog 98 #[v,.slice (some ⟨g,0,none⟩) 1 c] w fun e w'=>∃ v',e=.returned v'∧Out base w w' v' (bs++T):=by
 have hx:=hP w (Below.refl _ _) v bs hB hb hlen
 have HX:Hid (Calls Tryz.prog 160 #[v,.slice a n1 c1] w fun e w''=>∃ v',e=.returned v'∧Out base w w'' v' (bs++T)):=hx
 clear hx hP hB
 have e0:=hrow.cell 0 (by omega)
 simp at e0
 clear hrow
 go_enter Tryz.func98,Tryz.ntmps98
 go_wp2_with (go_at_call 160;refine HX.out.mono ?_;rintro e w1 ⟨v1,rfl,hO1⟩;have HO1:Hid _:=hO1;clear hO1)
 go_ret
 exact⟨_,rfl,HO1.out⟩
theorem appendChoices_n (w:World) (base:Nat) (v:Value) (bs:List UInt8) (g c:Nat) (vs:List (Option Addr×Nat×Nat)) (Ts:List (List UInt8)) (hl:Ts.length=vs.length) (hn:2≤vs.length) (hmax:vs.length≤1000)
  (hrow:RowIn w (fun g=>g<base) 225 1 (.slice (some ⟨g,0,none⟩) vs.length c) vs.length (vs.map fun x=>Value.slice x.1 x.2.1 x.2.2))
  (hP:∀(k:Nat) (h1:k<vs.length) (h2:k<Ts.length),ChainTxt base w (.slice vs[k].1 vs[k].2.1 vs[k].2.2) Ts[k]) (hB:Buf w base v bs) (hb:base≤w.heap.size) (hlen:bs.length+Ts.flatten.length+Ts.length+1≤850000) :
  Calls Tryz.prog 98 #[v,.slice (some ⟨g,0,none⟩) vs.length c] w fun e w'=>∃ v',e=.returned v'∧Out base w w' v' (bs++barJ Ts++[41]):=by
 obtain⟨i0,hi0,hz0,hz1,hz2⟩:=info_parts Tryz.infoU8
 have HO:Hid (Out base w w v bs):=Out.start hB
 have HR:Hid (RowIn w (fun g=>g<base) 225 1 (.slice (some ⟨g,0,none⟩) vs.length c) vs.length (vs.map fun x=>Value.slice x.1 x.2.1 x.2.2)):=hrow
 have HP:Hid (∀(k:Nat) (h1:k<vs.length) (h2:k<Ts.length),ChainTxt base w (.slice vs[k].1 vs[k].2.1 vs[k].2.2) Ts[k]):=hP
 clear hB hrow hP
 have m1:((vs.length:Int)==1)=false:=beq_eq_false_iff_ne.2 (by omega)
 go_enter Tryz.func98,Tryz.ntmps98
 go_wp2
 go_loopw [0,17] (fun vv i wr=>∃ k:Nat,k≤vs.length∧i=.int .i64 k∧Out base w wr vv (bs++barJ (Ts.take k))) (fun _ i _=>vs.length-(intOf i).toNat)
 case atStart=>exact⟨0,Nat.zero_le _,rfl,by simpa [barJ] using HO.out⟩
 case round=>
  obtain⟨k,hk,rfl,hO⟩:=hrel
  have hbr:base≤wr.heap.size:=hO.sz hb
  have HO2:Hid (Out base w wr u0 (bs++barJ (Ts.take k))):=hO
  clear hO
  by_cases hlt:k<vs.length
  ·have hlt2:k<Ts.length:=by omega
   have hrow:=HR.out.of_heap (w':=wr) (S':=fun g=>g<base) (fun j hj hl=>⟨hj,HO2.out.bl.block j hj⟩)
   have e0:=hrow.cell k (by omega)
   rw[List.getElem?_map,List.getElem?_eq_getElem hlt,Option.map_some] at e0
   have hx:=HP.out k hlt hlt2
   have htl:=barJ_take_le Ts k hlt2
   have HS:Hid (barJ (Ts.take (k+1))=barJ (Ts.take k)++(if k=0 then[40] else[124])++Ts[k]):=barJ_snoc Ts k hlt2
   obtain⟨T,hT⟩:∃ T,T=Ts[k]:=⟨_,rfl⟩
   rw[←hT] at hx htl HS
   obtain⟨s,hs⟩:∃ s,s=vs[k]:=⟨_,rfl⟩
   rw[←hs] at hx e0
   clear hT hs hrow
   obtain⟨q0,q1,q2⟩:=s
   simp only at e0 hx
   have HX:Hid (ChainTxt base w (.slice q0 q1 q2) T):=hx
   clear hx
   obtain⟨B,hB⟩:∃ B,B=bs++barJ (Ts.take k):=⟨_,rfl⟩
   have hBl:B.length+1+T.length≤850000:=by rw[hB,List.length_append];omega
   rw[←hB] at HO2
   have HBq:Hid (B=bs++barJ (Ts.take k)):=hB
   clear hB
   by_cases k0:k=0
   ·have kz:((k:Int)==0)=true:=by rw[k0];rfl
    have HS2:Hid (bs++barJ (Ts.take (k+1))=B++[40]++T):=by
     show _=_
     rw[HS.out,HBq.out,if_pos k0];simp
    clear HS HBq k0
    go_wp2_with (at_builtin;refine wpList_append_own_at _ rfl (.tmp 24) (.tmp 25) 73 rfl base 5 i0 (.int .u8 0) 1 1 Tryz.underlying73 hi0 hz0 hz1 hz2 rfl (by decide) u0 (B).length ((B).map bv) rfl (HO2.out.buf.alloc _) ⟨wr.heap.size,0,none⟩ 1 1 [bv 40] rfl rfl (by intro j u hj;cases j with|zero=>(simp at hj;subst hj;simp[Addr.add,go_sem])|succ j=>simp at hj) (bv_one [40]) (by unfold maxLen;omega) (by omega) (by simp;omega) ?_)
    intro v3 w3 hown3 hgr3 _ hob3
    have HO3:Hid (Out base w w3 v3 (B++[40])):=HO2.out.app hbr hgr3 hown3
    have hb3:base≤w3.heap.size:=HO3.out.sz hb
    clear hown3 hgr3 hob3
    go_wp2_with (go_at_call 160;refine(HX.out w3 HO3.out.bl v3 (B++[40]) HO3.out.buf hb3 (by rw[List.length_append,List.length_singleton];omega)).mono ?_;rintro e w4 ⟨v4,rfl,hO4⟩;have HO4:Hid (Out base w w4 v4 (B++[40]++T)):=HO3.out.trans hO4;clear hO4)
    go_roundw
    case rel=>exact⟨k+1,by omega,by go_num,by rw[HS2.out];exact HO4.out⟩
    case measure=>simp[intOf];omega
   ·have kz:((k:Int)==0)=false:=beq_eq_false_iff_ne.2 (by omega)
    have HS2:Hid (bs++barJ (Ts.take (k+1))=B++[124]++T):=by
     show _=_
     rw[HS.out,HBq.out,if_neg k0];simp
    clear HS HBq k0
    go_wp2_with (at_builtin;refine wpList_append_own_at _ rfl (.tmp 27) (.tmp 28) 73 rfl base 5 i0 (.int .u8 0) 1 1 Tryz.underlying73 hi0 hz0 hz1 hz2 rfl (by decide) u0 (B).length ((B).map bv) rfl (HO2.out.buf.alloc _) ⟨wr.heap.size,0,none⟩ 1 1 [bv 124] rfl rfl (by intro j u hj;cases j with|zero=>(simp at hj;subst hj;simp[Addr.add,go_sem])|succ j=>simp at hj) (bv_one [124]) (by unfold maxLen;omega) (by omega) (by simp;omega) ?_)
    intro v3 w3 hown3 hgr3 _ hob3
    have HO3:Hid (Out base w w3 v3 (B++[124])):=HO2.out.app hbr hgr3 hown3
    have hb3:base≤w3.heap.size:=HO3.out.sz hb
    clear hown3 hgr3 hob3
    go_wp2_with (go_at_call 160;refine(HX.out w3 HO3.out.bl v3 (B++[124]) HO3.out.buf hb3 (by rw[List.length_append,List.length_singleton];omega)).mono ?_;rintro e w4 ⟨v4,rfl,hO4⟩;have HO4:Hid (Out base w w4 v4 (B++[124]++T)):=HO3.out.trans hO4;clear hO4)
    go_roundw
    case rel=>exact⟨k+1,by omega,by go_num,by rw[HS2.out];exact HO4.out⟩
    case measure=>simp[intOf];omega
  ·have HT:Hid (Ts.take k=Ts):=List.take_of_length_le (by omega)
   obtain⟨B,hB⟩:∃ B,B=bs++barJ (Ts.take k):=⟨_,rfl⟩
   have hBl:B.length+1≤1000000:=by rw[hB,HT.out,List.length_append,barJ_len];omega
   rw[←hB] at HO2
   have HBq:Hid (B=bs++barJ Ts):=by show _=_;rw[hB,HT.out]
   clear hB HT
   go_wp2_with (at_builtin;refine wpList_append_own_at _ rfl (.tmp 34) (.tmp 35) 73 rfl base 5 i0 (.int .u8 0) 1 1 Tryz.underlying73 hi0 hz0 hz1 hz2 rfl (by decide) u0 (B).length ((B).map bv) rfl (HO2.out.buf.alloc _) ⟨wr.heap.size,0,none⟩ 1 1 [bv 41] rfl rfl (by intro j u hj;cases j with|zero=>(simp at hj;subst hj;simp[Addr.add,go_sem])|succ j=>simp at hj) (bv_one [41]) (by unfold maxLen;omega) (by omega) (by simp;omega) ?_)
   intro v5 w5 hown5 hgr5 _ hob5
   have HO5:Hid (Out base w w5 v5 (B++[41])):=HO2.out.app hbr hgr5 hown5
   clear hown5 hgr5 hob5
   go_wp2
   go_ret
   have:=HO5.out
   rw[HBq.out] at this
   exact⟨_,rfl,this⟩
mutual
/-- A tree whose text can be told. -/
def OkP:Prt→Prop
 |.mk g _ cs=>OkVs g∧(∀ c∈cs,okCnt c)∧cs.length≤200∧g.length≤200
def OkPs:List Prt→Prop
 |[]=>True
 |p::ps=>OkP p∧OkPs ps
def OkVs:List (List Prt)→Prop
 |[]=>True
 |c::cs=>(OkPs c∧c.length≤200)∧OkVs cs
end
theorem tPs_flat (ps:List Prt):tPs ps=(ps.map tP).flatten:=by
 induction ps with
 |nil=>simp[tPs]
 |cons p ps ih=>simp[tPs,ih]
theorem tBar_eq (cs:List (List Prt)):tBar cs=(cs.map tC).flatMap fun t=>[124]++t:=by
 induction cs with
 |nil=>simp[tBar]
 |cons p ps ih=>simp[tBar,ih]
theorem tC_many (ps:List Prt) (h:2≤ps.length):tC ps=[40]++(ps.map tP).flatten++[41]:=by
 match ps,h with
 |p::q::ps,_=>simp[tC,tPs_flat]
theorem tCs_many (cs:List (List Prt)) (h:2≤cs.length):tCs cs=barJ (cs.map tC)++[41]:=by
 match cs,h with
 |p::q::cs,_=>simp[tCs,tBar_eq,barJ]
theorem chainTxt_of (base:Nat) (w:World) (ps:List Prt) (v2:Value) (hR:RepC w (fun g=>g<base) ps v2) (hlen:ps.length≤200)
  (hP:∀(k:Nat) (h2:k<ps.length) (s:SixV),RepP w (fun g=>g<base) ps[k] s.cells→PartTxt base w s.val (tP ps[k])):ChainTxt base w v2 (tC ps):=by
 intro w' hbl v bs hB hb hl
 obtain⟨css,hrow,hps⟩:=hR
 obtain⟨vs,rfl,hvl,hv⟩:=six_list ps css hps
 have hrow':=hrow.of_heap (w':=w') (S':=fun g=>g<base) (fun j hj _=>⟨hj,hbl.block j hj⟩)
 have hP':∀(k:Nat) (h1:k<vs.length) (h2:k<ps.length),PartTxt base w' vs[k].val (tP ps[k]):=fun k h1 h2 w'' hb'=>hP k h2 _ (hv k h1 h2) w'' (hbl.trans hb')
 rw[←hvl] at hrow'
 match hm:vs,hvl,hrow',hP' with
 |[],hvl,hrow',hP'=>
  have:ps=[]:=List.eq_nil_of_length_eq_zero (by simpa using hvl.symm)
  subst this
  obtain⟨a,c,rfl⟩:=hrow'.nilForm
  simp only[tC] at hl ⊢
  exact appendChain_0 w' base v bs a c hB hb (by simpa using hl)
 |[s],hvl,hrow',hP'=>
  obtain⟨g,cap,rfl,_⟩:=hrow'.form (by simp)
  match ps,hvl,hP',hl with
  |[p],_,hP',hl=>
   simp only[tC] at hl ⊢
   exact appendChain_1 w' base v bs g cap s (tP p) hrow' (hP' 0 (by simp) (by simp)) hB hb hl
 |s::t::us,hvl,hrow',hP'=>
  obtain⟨g,cap,rfl,_⟩:=hrow'.form (by simp)
  have h2:2≤ps.length:=by rw[←hvl];simp
  rw[tC_many ps h2] at hl ⊢
  have:=appendChain_n w' base v bs g cap (s::t::us) (ps.map tP) (by simpa using hvl.symm) (by simp) (by omega) hrow' (fun k h1 h2'=>by
   have h3:k<ps.length:=by simpa using h2'
   have:=hP' k h1 h3
   simpa using this) hB hb (by simp at hl ⊢;omega)
  simpa [List.append_assoc] using this
theorem choicesTxt_of (base:Nat) (w:World) (cs:List (List Prt)) (v2:Value) (hne:cs≠[]) (hR:RepCs w (fun g=>g<base) cs v2) (hlen:cs.length≤300)
  (hP:∀(k:Nat) (h2:k<cs.length) (x:Value),RepC w (fun g=>g<base) cs[k] x→ChainTxt base w x (tC cs[k])):ChoicesTxt base w v2 (tCs cs):=by
 intro w' hbl v bs hB hb hl
 obtain⟨vs,hrow,hps⟩:=hR
 obtain⟨xs,rfl,hvl,hv⟩:=slice_list cs vs hps
 have hrow':=hrow.of_heap (w':=w') (S':=fun g=>g<base) (fun j hj _=>⟨hj,hbl.block j hj⟩)
 have hP':∀(k:Nat) (h1:k<xs.length) (h2:k<cs.length),ChainTxt base w' (.slice xs[k].1 xs[k].2.1 xs[k].2.2) (tC cs[k]):=fun k h1 h2 w'' hb'=>hP k h2 _ (hv k h1 h2) w'' (hbl.trans hb')
 rw[←hvl] at hrow'
 match hm:xs,hvl,hrow',hP' with
 |[],hvl,hrow',hP'=>
  exact absurd (List.eq_nil_of_length_eq_zero (by simpa using hvl.symm)) hne
 |[s],hvl,hrow',hP'=>
  obtain⟨g,cap,rfl,_⟩:=hrow'.form (by simp)
  match cs,hvl,hP',hl with
  |[p],_,hP',hl=>
   simp only[tCs] at hl ⊢
   exact appendChoices_1 w' base v bs g cap s.1 s.2.1 s.2.2 (tC p) hrow' (hP' 0 (by simp) (by simp)) hB hb hl
 |s::t::us,hvl,hrow',hP'=>
  obtain⟨g,cap,rfl,_⟩:=hrow'.form (by simp)
  have h2:2≤cs.length:=by rw[←hvl];simp
  rw[tCs_many cs h2] at hl ⊢
  rw[List.length_append,barJ_len] at hl
  have:=appendChoices_n w' base v bs g cap (s::t::us) (cs.map tC) (by simpa using hvl.symm) (by simp) (by omega) hrow' (fun k h1 h2'=>by
   have h3:k<cs.length:=by simpa using h2'
   have:=hP' k h1 h3
   simpa using this) hB hb (by simp only[List.length_singleton] at hl;omega)
  simpa [List.append_assoc] using this
theorem partTxt_of (base:Nat) (w:World) (g:List (List Prt)) (B:Nat→Bool) (cs:List Cnt) (s:SixV) (hR:RepP w (fun g=>g<base) (.mk g B cs) s.cells) (hok:∀ c∈cs,okCnt c) (hl:cs.length≤200)
  (hG:g≠[]→∀ x,RepCs w (fun g=>g<base) g x→ChoicesTxt base w x (tCs g)):PartTxt base w s.val (tP (.mk g B cs)):=by
 intro w' hbl v bs hB hb hlen
 obtain⟨q0,q1,q2,y0,y1,y2,y3,r0,r1,r2⟩:=s
 simp only[RepP] at hR
 obtain⟨gv,x0,x1,x2,x3,cv,he,hgr,hw,hc⟩:=hR
 simp only[SixV.cells,List.cons.injEq,and_true,Value.int.injEq,true_and] at he
 obtain⟨rfl,e0,e1,e2,e3,rfl⟩:=he
 obtain rfl:y0=x0:=by omega
 obtain rfl:y1=x1:=by omega
 obtain rfl:y2=x2:=by omega
 obtain rfl:y3=x3:=by omega
 have hc':=hc.of_heap (w':=w') (S':=fun g=>g<base) (fun j hj _=>⟨hj,hbl.block j hj⟩)
 have hfl:=flat_len cs
 cases g with
 |nil=>
  obtain⟨vs,hr,_⟩:=hgr
  obtain⟨a,c,e⟩:=RowIn.nilForm hr
  injection e with e1 e2 e3
  subst e1 e2 e3
  simp only[tP] at hlen ⊢
  rw[←List.append_assoc]
  rw[List.length_append] at hlen
  exact appendPart_b w' base v bs y0 y1 y2 y3 r0 r1 r2 cs hok hc' q0 q2 B hw hB hb (by omega)
 |cons c0 g=>
  have hcs:RepCs w (fun g=>g<base) (c0::g) (.slice q0 q1 q2):=hgr
  obtain⟨vs,hr,_⟩:=hgr
  obtain⟨ga,cap,e,_⟩:=hr.form (by simp)
  injection e with e1 e2 e3
  subst e1 e2 e3
  simp only[tP] at hlen ⊢
  rw[←List.append_assoc]
  rw[List.length_append] at hlen
  exact appendPart_g w' base v bs y0 y1 y2 y3 r0 r1 r2 cs hok hc' ⟨ga,0,none⟩ _ _ (by simp) (tCs (c0::g)) (fun w'' hb'=>hG (by simp) _ hcs w'' (hbl.trans hb')) (by omega) hB hb (by omega)
mutual
theorem partTxt (base:Nat) (w:World):∀(p:Prt),OkP p→∀(s:SixV),RepP w (fun g=>g<base) p s.cells→PartTxt base w s.val (tP p)
 |.mk g B cs,hok,s,hR=>by
  simp only[OkP] at hok
  exact partTxt_of base w g B cs s hR hok.2.1 hok.2.2.1 (fun hne x hx=>choicesTxt_of base w g x hne hx (Nat.le_trans hok.2.2.2 (by decide)) (vsTxt base w g hok.1))
theorem psTxt (base:Nat) (w:World):∀(ps:List Prt),OkPs ps→∀(k:Nat) (h2:k<ps.length) (s:SixV),RepP w (fun g=>g<base) ps[k] s.cells→PartTxt base w s.val (tP ps[k])
 |[],_,k,h2,_,_=>by simp at h2
 |p::ps,hok,0,_,s,hR=>by
  simp only[OkPs] at hok
  exact partTxt base w p hok.1 s hR
 |p::ps,hok,k+1,h2,s,hR=>by
  simp only[OkPs] at hok
  exact psTxt base w ps hok.2 k (by simpa using h2) s hR
theorem vsTxt (base:Nat) (w:World):∀(cs:List (List Prt)),OkVs cs→∀(k:Nat) (h2:k<cs.length) (x:Value),RepC w (fun g=>g<base) cs[k] x→ChainTxt base w x (tC cs[k])
 |[],_,k,h2,_,_=>by simp at h2
 |c::cs,hok,0,_,x,hR=>by
  simp only[OkVs] at hok
  exact chainTxt_of base w c x hR hok.1.2 (psTxt base w c hok.1.1)
 |c::cs,hok,k+1,h2,x,hR=>by
  simp only[OkVs] at hok
  exact vsTxt base w cs hok.2 k (by simpa using h2) x hR
end
theorem choicesTxt (base:Nat) (w:World) (cs:List (List Prt)) (hne:cs≠[]) (hok:OkVs cs) (hl:cs.length≤300) (x:Value) (hR:RepCs w (fun g=>g<base) cs x):ChoicesTxt base w x (tCs cs):=
 choicesTxt_of base w cs x hne hR hl (vsTxt base w cs hok)
theorem tSpan_len (lo hi:Nat):(tSpan lo hi).length≤5:=by unfold tSpan;split<;>simp
theorem tLoop_len (S:Nat→Bool) (n:Nat):∀ low b,(tLoop S n low b).length≤6*n:=by
 induction n with
 |zero=>intro low b;simp[tLoop]
 |succ n ih=>
  intro low b
  unfold tLoop
  split
  ·simp
  ·split
   ·have h1:=ih (spanE S 256 low+1) true
    have h2:=tSpan_len low (spanE S 256 low)
    rw[List.length_append,List.length_append]
    have h3:(if b=true then[(32:UInt8)] else[]).length≤1:=by split<;>simp
    omega
   ·have:=ih (low+1) b;omega
theorem tBytes_len (S:Nat→Bool):(tBytes S).length≤1544:=by
 unfold tBytes
 have:=tLoop_len S 257 0 false
 rw[List.length_append,List.length_append]
 simp;omega
theorem beginsNum_le {v l:Int} (h:beginsNum v l=true):v≤30:=by
 unfold beginsNum at h
 split at h
 ·simp at h
 ·omega
theorem pDigits_bd {l v:Int}{b:Bool}{z:Int}{r r':List UInt8} (hv:0≤v∧v≤30) (h:pDigits l v b r=.ok z r'):0≤z∧z≤30:=by
 induction r generalizing v b with
 |nil=>
  simp only[pDigits] at h;split at h
  ·injection h with e _;subst e;exact hv
  ·simp at h
 |cons c t ih=>
  simp only[pDigits] at h
  split at h
  ·rename_i hc
   exact ih ⟨by omega,beginsNum_le hc.2.2.2⟩ h
  ·split at h
   ·injection h with e _;subst e;exact hv
   ·simp at h
theorem pBounds_bd {a b:Int}{r r':List UInt8} (h:pBounds r=.ok (a,b) r'):0≤a∧a≤30∧-1≤b∧b≤30:=by
 simp only[pBounds] at h
 split at h
 ·simp at h
 ·rename_i h1
  have:=pDigits_bd ⟨by omega,by omega⟩ h1
  split at h
  ·injection h with e _;injection e with e1 e2;omega
  ·split at h
   ·simp at h
   ·rename_i h2
    have:=pDigits_bd ⟨by omega,by omega⟩ h2
    split at h
    ·injection h with e _;injection e with e1 e2;omega
    ·simp at h
  ·injection h with e _;injection e with e1 e2;omega
  ·simp at h
theorem pCounts_txt {n:Nat}{cs:List Cnt}{r r':List UInt8} (h:pCounts n r=.ok cs r'):(∀ c∈cs,okCnt c)∧cs.length+r'.length≤r.length∧(cs.flatMap tCount).length+1600*r'.length≤1600*r.length:=by
 induction n generalizing r cs with
 |zero=>simp[pCounts] at h
 |succ n ih=>
  simp only[pCounts] at h
  split at h
  ·split at h
   ·rename_i hc
    split at h
    ·rename_i h1;injection h with e1 e;subst e;subst e1
     obtain⟨i1,i2,i3⟩:=ih h1
     refine⟨fun c hm=>?_,by simp;omega,?_⟩
     ·rcases List.mem_cons.1 hm with rfl|hm
      ·left;rcases hc with rfl|rfl|rfl<;>decide
      ·exact i1 c hm
     ·rw[List.flatMap_cons,List.length_append]
      simp only[List.length_cons]
      refine Nat.le_trans (Nat.add_le_add_right (Nat.add_le_add_right (tCount_len _) _) _) ?_
      omega
    ·simp at h
   ·split at h
    ·split at h
     ·simp at h
     ·rename_i h1
      have hl:=pBounds_len h1
      have hb:=pBounds_bd h1
      split at h
      ·rename_i h2;injection h with e1 e;subst e;subst e1
       obtain⟨i1,i2,i3⟩:=ih h2
       refine⟨fun c hm=>?_,by simp;omega,?_⟩
       ·rcases List.mem_cons.1 hm with rfl|hm
        ·right;exact hb
        ·exact i1 c hm
       ·rw[List.flatMap_cons,List.length_append]
        simp only[List.length_cons]
        refine Nat.le_trans (Nat.add_le_add_right (Nat.add_le_add_right (tCount_len _) _) _) ?_
        omega
      ·simp at h
    ·injection h with e1 e;subst e;subst e1;simp
  ·injection h with e1 e;subst e;subst e1;simp
def sumC:List (List Prt)→Nat
 |[]=>0
 |c::cs=>(tC c).length+1+sumC cs
theorem tBar_len (cs:List (List Prt)):(tBar cs).length=sumC cs:=by
 induction cs with
 |nil=>simp[tBar,sumC]
 |cons c cs ih=>simp[tBar,sumC,ih];omega
theorem tCs_le (cs:List (List Prt)):(tCs cs).length≤sumC cs+2:=by
 match cs with
 |[]=>simp[tCs]
 |[c]=>simp[tCs,sumC];omega
 |c::d::cs=>simp[tCs,sumC,tBar_len];omega
def sumP:List Prt→Nat
 |[]=>0
 |p::ps=>(tP p).length+sumP ps
theorem tPs_len (ps:List Prt):(tPs ps).length=sumP ps:=by
 induction ps with
 |nil=>simp[tPs,sumP]
 |cons c cs ih=>simp[tPs,sumP,ih]
theorem tC_le (ps:List Prt):(tC ps).length≤sumP ps+2:=by
 match ps with
 |[]=>simp[tC]
 |[c]=>simp[tC,sumP]
 |c::d::cs=>simp[tC,sumP,tPs_len];omega
def tG (g:List (List Prt)) (B:Nat→Bool):List UInt8:=match g with|[]=>tBytes B|c::cs'=>tCs (c::cs')
theorem tP_flat (g:List (List Prt)) (B:Nat→Bool) (cs:List Cnt):tP (.mk g B cs)=tG g B++cs.flatMap tCount:=by
 cases g<;>simp[tP,tG]
theorem tG_nil (B:Nat→Bool):(tG [] B).length≤1544:=tBytes_len B
theorem tG_ne (g:List (List Prt)) (B:Nat→Bool) (h:g≠[]):tG g B=tCs g:=by cases g<;>simp_all [tG]
theorem pTxt (n:Nat) :
  (∀ r cs r',r.length≤200→pChoices n r=.ok cs r'→OkVs cs∧cs.length+r'.length≤r.length+1∧sumC cs+1600*r'.length≤1600*r.length+3) ∧
  (∀ r ps r',r.length≤200→pChain n r=.ok ps r'→OkPs ps∧ps.length+r'.length≤r.length∧sumP ps+1600*r'.length≤1600*r.length) ∧
  (∀ r p r',r.length≤200→pPart n r=.ok p r'→OkP p∧r'.length+1≤r.length∧(tP p).length+1600*r'.length≤1600*r.length) ∧
  (∀ r g B r',r.length≤200→pAtom n r=.ok (g,B) r'→OkVs g∧g.length≤200∧r'.length+1≤r.length∧(tG g B).length+1600*r'.length≤1600*r.length):=by
 induction n with
 |zero=>exact⟨fun r cs r' _ h=>by simp[pChoices] at h,fun r cs r' _ h=>by simp[pChain] at h,fun r cs r' _ h=>by simp[pPart] at h,fun r g B r' _ h=>by simp[pAtom] at h⟩
 |succ n ih=>
  obtain⟨i1,i2,i3,i4⟩:=ih
  refine⟨fun r cs r' hr h=>?_,fun r ps r' hr h=>?_,fun r p r' hr h=>?_,fun r g B r' hr h=>?_⟩
  ·simp only[pChoices] at h
   split at h
   ·simp at h
   ·rename_i c r1 h1
    obtain⟨a1,a2,a3⟩:=i2 _ _ _ hr h1
    have a4:=tC_le c
    split at h
    ·split at h
     ·rename_i h2
      injection h with e1 e2;subst e1;subst e2
      obtain⟨b1,b2,b3⟩:=i1 _ _ _ (by simp at a2;omega) h2
      simp only[List.length_cons] at *
      refine⟨?_,by omega,by simp only[sumC];omega⟩
      simp only[OkVs];exact⟨⟨a1,by omega⟩,b1⟩
     ·simp at h
    ·injection h with e1 e2;subst e1;subst e2
     refine⟨?_,by simp;omega,by simp only[sumC];omega⟩
     simp only[OkVs];exact⟨⟨a1,by omega⟩,trivial⟩
  ·simp only[pChain] at h
   split at h
   ·split at h
    ·simp at h
    ·rename_i h1
     obtain⟨a1,a2,a3⟩:=i3 _ _ _ hr h1
     split at h
     ·rename_i h2
      injection h with e1 e2;subst e1;subst e2
      obtain⟨b1,b2,b3⟩:=i2 _ _ _ (by omega) h2
      refine⟨?_,by simp only[List.length_cons];omega,by simp only[sumP];omega⟩
      simp only[OkPs];exact⟨a1,b1⟩
     ·simp at h
   ·injection h with e1 e2;subst e1;subst e2;exact⟨by simp[OkPs],by simp,by simp[sumP]⟩
  ·simp only[pPart] at h
   split at h
   ·simp at h
   ·rename_i g S r1 h1
    obtain⟨a1,a2,a3,a4⟩:=i4 _ _ _ _ hr h1
    split at h
    ·rename_i h2
     injection h with e1 e2;subst e1;subst e2
     obtain⟨b1,b2,b3⟩:=pCounts_txt h2
     refine⟨?_,by omega,by rw[tP_flat,List.length_append];omega⟩
     simp only[OkP];exact⟨a1,b1,by omega,a2⟩
    ·simp at h
  ·simp only[pAtom] at h
   match r,hr,h with
   |c::t,hr,h=>
    simp only[List.length_cons] at hr
    simp only at h
    split at h
    ·split at h
     ·simp at h
     ·rename_i cs1 r1 h1
      obtain⟨a1,a2,a3⟩:=i1 _ _ _ (by omega) h1
      split at h
      ·injection h with e1 e2;injection e1 with e1 _;subst e1;subst e2
       have:=tCs_le cs1
       simp only[List.length_cons] at *
       refine⟨a1,by omega,by omega,?_⟩
       rw[tG_ne _ _ (pChoices_ne h1)];omega
      ·simp at h
    ·split at h
     ·split at h
      ·rename_i h1;injection h with e1 e2;injection e1 with e1 _;subst e1;subst e2
       have:=pClass_len h1;have:=tG_nil B
       exact⟨by simp[OkVs],by simp,by simp;omega,by simp only[List.length_cons];omega⟩
      ·simp at h
     ·split at h
      ·split at h
       ·rename_i h1;injection h with e1 e2;injection e1 with e1 _;subst e1;subst e2
        have:=pEscape_len h1;have:=tG_nil B
        exact⟨by simp[OkVs],by simp,by simp;omega,by simp only[List.length_cons];omega⟩
       ·simp at h
      ·split at h
       ·injection h with e1 e2;injection e1 with e1 _;subst e1;subst e2;have:=tG_nil B
        exact⟨by simp[OkVs],by simp,by simp,by simp only[List.length_cons];omega⟩
       ·injection h with e1 e2;injection e1 with e1 _;subst e1;subst e2;have:=tG_nil B
        exact⟨by simp[OkVs],by simp,by simp,by simp only[List.length_cons];omega⟩
theorem tkR_len (c:UInt8) (r:List UInt8):(tkR c r).length≤r.length:=by
 match r with
 |[]=>exact Nat.le_refl _
 |a::t=>simp only[tkR];split<;>simp
theorem readP_txt {l:List UInt8}{p:Ptn} (hl:l.length≤200) (h:readP l=.ok p []):p.choices≠[]∧OkVs p.choices∧p.choices.length≤300∧(tCs p.choices).length≤849000:=by
 unfold readP at h
 have hk:=tkR_len 94 l
 split at h
 ·simp at h
 ·rename_i cs r' h1
  obtain⟨a1,a2,a3⟩:=(pTxt _).1 _ _ _ (by omega) h1
  have:=tCs_le cs
  split at h
  ·injection h with e _;subst e
   exact⟨pChoices_ne h1,a1,by simp only;omega,by simp only;omega⟩
  ·simp at h
def ParseRes (s:ByteArray) (e:Ending):Prop:=
 (200<s.size∧e=.returned (.tuple #[.string ⟨#[]⟩,.int .i64 4,.int .i64 0])) ∨
 (s.size≤200∧(∃ r',readP s.data.toList=.bad r'∧e=.returned (.tuple #[.string ⟨#[]⟩,.int .i64 3,.int .i64 ((s.size-r'.length:Nat):Int)]))) ∨
 (s.size≤200∧∃ p,readP s.data.toList=.ok p []∧20<nestCs p.choices∧e=.returned (.tuple #[.string ⟨#[]⟩,.int .i64 4,.int .i64 0])) ∨
 (s.size≤200∧∃ p,readP s.data.toList=.ok p []∧nestCs p.choices≤20∧e=.returned (.tuple #[.string ⟨(tPtn p).toArray⟩,.int .i64 0,.int .i64 0]))
theorem parse_bad (w:World) (s:ByteArray) (err pl:Int) (herr:(err==0)=false) (hr:Calls Tryz.prog 40 #[.string s] w fun e w'=>e=.returned (.tuple #[ptnV false false none 0 0,.int .i64 err,.int .i64 pl])∧Below w.heap.size w w') :
  Calls Tryz.prog 25 #[.string s] w fun e w'=>e=.returned (.tuple #[.string ⟨#[]⟩,.int .i64 err,.int .i64 pl])∧Below w.heap.size w w':=by
 have HR:Hid (Calls Tryz.prog 40 #[.string s] w fun e w'=>e=.returned (.tuple #[ptnV false false none 0 0,.int .i64 err,.int .i64 pl])∧Below w.heap.size w w'):=hr
 clear hr
 go_enter Tryz.func25,Tryz.ntmps25
 go_wp2_with (go_at_call 40;refine HR.out.mono ?_;rintro e w1 ⟨rfl,hb1⟩)
 refine bodyPost_ret (v:=.tuple #[.string ⟨#[]⟩,.int .i64 err,.int .i64 pl]) ?_ rfl ⟨rfl,?_⟩
 ·simp[results,Tryz.results25,go_sem]
 ·exact hb1.alloc hb1.size _
theorem text_at (w1:World) (p:Ptn) (h1:p.choices≠[]) (h2:OkVs p.choices) (h3:p.choices.length≤300) (h4:(tCs p.choices).length≤849000) (g0:Option Addr) (n0 c0 b:Nat) (hq:RepCs w1 (From b w1) p.choices (.slice g0 n0 c0)) :
  Calls Tryz.prog 57 #[.agg #[.bool p.front,.bool p.back,.slice g0 n0 c0]] (w1.alloc (ptnObj p.front p.back g0 n0 c0)) fun e w'=>e=.returned (.string ⟨(tPtn p).toArray⟩)∧Below (w1.alloc (ptnObj p.front p.back g0 n0 c0)).heap.size (w1.alloc (ptnObj p.front p.back g0 n0 c0)) w':=by
 refine text_any _ p g0 n0 c0 (choicesTxt _ _ _ h1 h2 h3 _ (hq.of_heap fun g hg hlt=>⟨?_,Below.heap_alloc _ _ _ hlt⟩)) h4
 simp;omega
theorem parse_ok (w:World) (s:ByteArray) (p:Ptn) (h1:p.choices≠[]) (h2:OkVs p.choices) (h3:p.choices.length≤300) (h4:(tCs p.choices).length≤849000) (hr:Calls Tryz.prog 40 #[.string s] w fun e w'=>(∃ g0 n0 c0,RepCs w' (From w.heap.size w') p.choices (.slice g0 n0 c0)∧e=.returned (.tuple #[ptnV p.front p.back g0 n0 c0,.int .i64 0,.int .i64 0]))∧Below w.heap.size w w') :
  Calls Tryz.prog 25 #[.string s] w fun e w'=>e=.returned (.tuple #[.string ⟨(tPtn p).toArray⟩,.int .i64 0,.int .i64 0])∧Below w.heap.size w w':=by
 have HR:Hid (Calls Tryz.prog 40 #[.string s] w fun e w'=>(∃ g0 n0 c0,RepCs w' (From w.heap.size w') p.choices (.slice g0 n0 c0)∧e=.returned (.tuple #[ptnV p.front p.back g0 n0 c0,.int .i64 0,.int .i64 0]))∧Below w.heap.size w w'):=hr
 clear hr
 go_enter Tryz.func25,Tryz.ntmps25
 go_wp2_with (first|(go_at_call 57;(refine Calls.mono HT.out ?_;rintro e w2 ⟨rfl,hb2⟩;have HB2:Hid _:=hb2;clear hb2))|(go_at_call 40;(refine HR.out.mono ?_;rintro e w1 ⟨⟨g0,n0,c0,hq,rfl⟩,hb1⟩;have HT:Hid _:=text_at w1 p h1 h2 h3 h4 g0 n0 c0 _ hq;clear hq)))
 refine bodyPost_ret (v:=.tuple #[.string ⟨(tPtn p).toArray⟩,.int .i64 0,.int .i64 0]) ?_ rfl ⟨rfl,?_⟩
 ·simp[results,Tryz.results25,go_sem]
 ·have hz:=hb1.size
  exact(hb1.alloc hz _).trans (HB2.out.mono (by simp;omega))
theorem parse_any (w:World) (s:ByteArray) (hT:Tabs w) (hs:s.size≤maxLen) :
  Calls Tryz.prog 25 #[.string s] w fun e w'=>ParseRes s e∧Below w.heap.size w w':=by
 have hr:=read_any w s hT hs
 by_cases h2:200<s.size
 ·refine(parse_bad w s 4 0 rfl (hr.mono fun e w' g=>⟨?_,g.2⟩)).mono fun e w' g=>⟨.inl ⟨h2,g.1⟩,g.2⟩
  rcases g.1 with g|g|g|g
  ·exact g.2
  all_goals exact absurd g.1 (by omega)
 ·have h2':s.size≤200:=by omega
  have hl:s.data.toList.length≤200:=by simp;exact h2'
  cases hR:readP s.data.toList with
  |bad r'=>
   refine(parse_bad w s 3 _ rfl (hr.mono fun e w' g=>⟨?_,g.2⟩)).mono fun e w' g=>⟨.inr (.inl ⟨h2',r',hR,g.1⟩),g.2⟩
   rcases g.1 with g|g|g|g
   ·exact absurd g.1 h2
   ·obtain⟨_,r'',hq,he⟩:=g
    rw[hR] at hq;injection hq with e;subst e;exact he
   all_goals
    obtain⟨_,p,hq,_⟩:=g
    rw[hR] at hq;simp at hq
  |ok p r'=>
   obtain rfl:=readP_rest hR
   obtain⟨t1,t2,t3,t4⟩:=readP_txt hl hR
   by_cases hx:20<nestCs p.choices
   ·refine(parse_bad w s 4 0 rfl (hr.mono fun e w' g=>⟨?_,g.2⟩)).mono fun e w' g=>⟨.inr (.inr (.inl ⟨h2',p,hR,hx,g.1⟩)),g.2⟩
    rcases g.1 with g|g|g|g
    ·exact absurd g.1 h2
    ·obtain⟨_,r'',hq,he⟩:=g
     rw[hR] at hq;simp at hq
    ·obtain⟨_,q,hq,_,he⟩:=g
     exact he
    ·obtain⟨_,q,hq,hn,_⟩:=g
     rw[hR] at hq;injection hq with e _;subst e;omega
   ·refine(parse_ok w s p t1 t2 t3 t4 (hr.mono fun e w' g=>⟨?_,g.2⟩)).mono fun e w' g=>⟨.inr (.inr (.inr ⟨h2',p,hR,by omega,g.1⟩)),g.2⟩
    rcases g.1 with g|g|g|g
    ·exact absurd g.1 h2
    ·obtain⟨_,r'',hq,he⟩:=g
     rw[hR] at hq;simp at hq
    ·obtain⟨_,q,hq,hn,_⟩:=g
     rw[hR] at hq;injection hq with e _;subst e;omega
    ·obtain⟨_,q,hq,hn,he⟩:=g
     rw[hR] at hq;injection hq with e _;subst e;exact he
end Go.Proofs.YtbjabpodkaokjaaGreatDoor.Sx
namespace Go.Proofs.YtbjabpodkaokjaaGreatDoor
open Sx (Prt Cnt)
section
variable {α:Type} [DecidableEq α]
end
theorem stsM_more {α β:Type} [DecidableEq α] {step:α→β→α}{rs:List β}{l k:Nat} (hlk:l≤k):∀ {f:Nat}{met:List α}{tk:Nat}{rows:List (List Nat)}{x:List α×List (List Nat)},stsM step rs l f met tk rows=some x→stsM step rs k f met tk rows=some x
 |0,met,tk,rows,x,e=>by simp[stsM] at e
 |f+1,met,tk,rows,x,e=>by
  simp only[stsM] at e ⊢
  split at e
  ·exact e
  ·split at e
   ·simp at e
   ·rename_i hl
    rw[if_neg (by omega)]
    exact stsM_more hlk e
theorem searchM_more {p:Sx.Ptn}{l k:Nat} (hlk:l≤k) {t:Tn} (h:searchM p l=some t):searchM p k=some t:=by
 unfold searchM at h ⊢
 split at h
 ·simp at h
 ·rename_i hs
  rw[if_neg hs]
  split at h
  ·simp at h
  ·rename_i x hx
   rw[stsM_more hlk hx]
   exact h
open Sx (Prt Cnt)
open Go.RowKit
section
variable {S:Nat}{wS:World}{fb n:Nat}{W W':World}{v:Value}{met:List (List UInt8)}{f:Nat→Value}
end
open Go.RowKit
section
variable {α β:Type} [DecidableEq α] [DecidableEq β]
end
theorem TnOk.row {n k:Nat}{t:Tn} (h:TnOk n k t) {i:Nat} (hi:i<n):(t.next.getD i []).length=k:=by
 rw[getD_at (by rw[h.nl];exact hi)]
 exact(h.r _ (List.getElem_mem _)).1
open Go.RowKit
structure LmC (w:World) (s:ByteArray) (limit more:Int) (a b:Nat) (ga gb:World→World→Ending→Prop) (sx:ByteArray) (x y:Int):Prop where
 pl:Calls Tryz.prog 20 #[] w fun e w'=>e=.returned (.bool true)∧Below w.heap.size w w'
 p1:∀ W,Calls Tryz.prog 21 #[.int .i64 limit,.int .i64 200] W fun e w'=>e=.returned (.int .i64 (a:Int))∧w'=W
 p2:∀ W,Calls Tryz.prog 21 #[.int .i64 more,.int .i64 (200-(1+(a:Int))+1)] W fun e w'=>e=.returned (.int .i64 (b:Int))∧w'=W
 la:a≤199
 lb:a+b≤199
 c1:∀ W,Below w.heap.size w W→Calls Tryz.prog 14 #[.string s,.int .i64 (1+(a:Int))] W fun e w'=>ga W w' e∧Below W.heap.size W w'
 c2:∀ W,Below w.heap.size w W→Calls Tryz.prog 14 #[.string s,.int .i64 (1+(a:Int)+(b:Int))] W fun e w'=>gb W w' e∧Below W.heap.size W w'
 ps:∀ W,Below w.heap.size w W→Calls Tryz.prog 25 #[.string s] W fun e w'=>e=.returned (.tuple #[.string sx,.int .i64 x,.int .i64 y])∧Below W.heap.size W w'
 c0:∀ W,Calls Tryz.prog 14 #[.string s,.int .i64 0] W fun e w'=>e=.returned (.tuple #[.pointer none,.int .i64 2,.int .i64 0])∧Below W.heap.size W w'
abbrev No (x y:Int) (_ _:World) (e:Ending):Prop:=e=.returned (.tuple #[.pointer none,.int .i64 x,.int .i64 y])
abbrev Ye (t:Tb) (w w':World) (e:Ending):Prop:=∃ m c,e=.returned (.tuple #[.pointer (some ⟨m,0,none⟩),.int .i64 0,.int .i64 0])∧Mch w' m t c
theorem lim_syn (w:World) (s:ByteArray) (hs:s.size≤maxLen) (limit more:Int) (a b:Nat) (y:Nat) (hy:y≤s.size) (h:LmC w s limit more a b (No 3 y) (No 3 y) ⟨#[]⟩ 3 y) :
  Calls Tryz.prog 7 #[.string s,.int .i64 limit,.int .i64 more] w fun e w'=>e=.returned (.bool true)∧Below w.heap.size w w':=by
 have HH:Hid (LmC w s limit more a b (No 3 y) (No 3 y) ⟨#[]⟩ 3 y):=h
 have ha:=h.la
 have hb:=h.lb
 have hyI:(y:Int)≤s.size:=by omega
 unfold maxLen at hs
 clear h
 go_enter Tryz.func7,Tryz.ntmps7
 go_wp2_with (first|(have hmk4:=HB4.out;go_at_call 14;refine(HH.out.c0 _).mono ?_;clear hmk4;rintro e w5 ⟨rfl,hb5⟩;have HB5:Hid (Below w.heap.size w w5):=HB4.out.trans (hb5.mono HB4.out.size);have HB45:Hid (Below w4.heap.size w4 w5):=hb5;clear hb5)|(go_at_call 25;refine(HH.out.ps _ HB3.out).mono ?_;rintro e w4 ⟨rfl,hb4⟩;have HB4:Hid (Below w.heap.size w w4):=HB3.out.trans (hb4.mono HB3.out.size);have HB34:Hid (Below w3.heap.size w3 w4):=hb4;clear hb4)|(go_at_call 14;refine(HH.out.c2 _ HB2.out).mono ?_;rintro e w3 ⟨rfl,hb3⟩;have HB3:Hid (Below w.heap.size w w3):=HB2.out.trans (hb3.mono HB2.out.size);have HB23:Hid (Below w2.heap.size w2 w3):=hb3;clear hb3)|(go_at_call 14;refine(HH.out.c1 _ HB1.out).mono ?_;rintro e w2 ⟨rfl,hb2⟩;have HB2:Hid (Below w.heap.size w w2):=HB1.out.trans (hb2.mono HB1.out.size);clear hb2)|(have hmk1:=HMK.out;go_at_call 21;refine(HH.out.p2 _).mono ?_;clear hmk1;rintro e w' ⟨rfl,hw'⟩;obtain rfl:=hw'.symm)|(go_at_call 21;refine(HH.out.p1 _).mono ?_;rintro e w' ⟨rfl,hw'⟩;obtain rfl:=hw'.symm;have HMK:Hid True:=trivial)|(go_at_call 20;refine HH.out.pl.mono ?_;rintro e w1 ⟨rfl,hb1⟩;have HB1:Hid (Below w.heap.size w w1):=hb1;clear hb1))
 go_ret
 exact⟨rfl,HB5.out⟩
theorem lim_nil (w:World) (s:ByteArray) (limit more:Int) (a b:Nat) (sx:ByteArray) (x:Int) (hx:(x==3)=false) (h:LmC w s limit more a b (No 4 0) (No 4 0) sx x 0) :
  Calls Tryz.prog 7 #[.string s,.int .i64 limit,.int .i64 more] w fun e w'=>e=.returned (.bool true)∧Below w.heap.size w w':=by
 have HH:Hid (LmC w s limit more a b (No 4 0) (No 4 0) sx x 0):=h
 have ha:=h.la
 have hb:=h.lb
 clear h
 go_enter Tryz.func7,Tryz.ntmps7
 go_wp2_with (first|(have hmk4:=HB4.out;go_at_call 14;refine(HH.out.c0 _).mono ?_;clear hmk4;rintro e w5 ⟨rfl,hb5⟩;have HB5:Hid (Below w.heap.size w w5):=HB4.out.trans (hb5.mono HB4.out.size);have HB45:Hid (Below w4.heap.size w4 w5):=hb5;clear hb5)|(go_at_call 25;refine(HH.out.ps _ HB3.out).mono ?_;rintro e w4 ⟨rfl,hb4⟩;have HB4:Hid (Below w.heap.size w w4):=HB3.out.trans (hb4.mono HB3.out.size);have HB34:Hid (Below w3.heap.size w3 w4):=hb4;clear hb4)|(go_at_call 14;refine(HH.out.c2 _ HB2.out).mono ?_;rintro e w3 ⟨rfl,hb3⟩;have HB3:Hid (Below w.heap.size w w3):=HB2.out.trans (hb3.mono HB2.out.size);have HB23:Hid (Below w2.heap.size w2 w3):=hb3;clear hb3)|(go_at_call 14;refine(HH.out.c1 _ HB1.out).mono ?_;rintro e w2 ⟨rfl,hb2⟩;have HB2:Hid (Below w.heap.size w w2):=HB1.out.trans (hb2.mono HB1.out.size);clear hb2)|(have hmk1:=HMK.out;go_at_call 21;refine(HH.out.p2 _).mono ?_;clear hmk1;rintro e w' ⟨rfl,hw'⟩;obtain rfl:=hw'.symm)|(go_at_call 21;refine(HH.out.p1 _).mono ?_;rintro e w' ⟨rfl,hw'⟩;obtain rfl:=hw'.symm;have HMK:Hid True:=trivial)|(go_at_call 20;refine HH.out.pl.mono ?_;rintro e w1 ⟨rfl,hb1⟩;have HB1:Hid (Below w.heap.size w w1):=hb1;clear hb1))
 go_ret
 exact⟨rfl,HB5.out⟩
theorem lim_ny (w:World) (s:ByteArray) (limit more:Int) (a b:Nat) (sx:ByteArray) (t:Tb) (h:LmC w s limit more a b (No 4 0) (Ye t) sx 0 0) :
  Calls Tryz.prog 7 #[.string s,.int .i64 limit,.int .i64 more] w fun e w'=>e=.returned (.bool true)∧Below w.heap.size w w':=by
 have HH:Hid (LmC w s limit more a b (No 4 0) (Ye t) sx 0 0):=h
 have ha:=h.la
 have hb:=h.lb
 clear h
 go_enter Tryz.func7,Tryz.ntmps7
 go_wp2_with (first|(have hmk4:=HB4.out;go_at_call 14;refine(HH.out.c0 _).mono ?_;clear hmk4;rintro e w5 ⟨rfl,hb5⟩;have HB5:Hid (Below w.heap.size w w5):=HB4.out.trans (hb5.mono HB4.out.size);have HB45:Hid (Below w4.heap.size w4 w5):=hb5;clear hb5)|(go_at_call 25;refine(HH.out.ps _ HB3.out).mono ?_;rintro e w4 ⟨rfl,hb4⟩;have HB4:Hid (Below w.heap.size w w4):=HB3.out.trans (hb4.mono HB3.out.size);have HB34:Hid (Below w3.heap.size w3 w4):=hb4;clear hb4)|(go_at_call 14;refine(HH.out.c2 _ HB2.out).mono ?_;rintro e w3 ⟨⟨m,c,rfl,hm⟩,hb3⟩;have HB3:Hid (Below w.heap.size w w3):=HB2.out.trans (hb3.mono HB2.out.size);have HB23:Hid (Below w2.heap.size w2 w3):=hb3;clear hb3)|(go_at_call 14;refine(HH.out.c1 _ HB1.out).mono ?_;rintro e w2 ⟨rfl,hb2⟩;have HB2:Hid (Below w.heap.size w w2):=HB1.out.trans (hb2.mono HB1.out.size);clear hb2)|(have hmk1:=HMK.out;go_at_call 21;refine(HH.out.p2 _).mono ?_;clear hmk1;rintro e w' ⟨rfl,hw'⟩;obtain rfl:=hw'.symm)|(go_at_call 21;refine(HH.out.p1 _).mono ?_;rintro e w' ⟨rfl,hw'⟩;obtain rfl:=hw'.symm;have HMK:Hid True:=trivial)|(go_at_call 20;refine HH.out.pl.mono ?_;rintro e w1 ⟨rfl,hb1⟩;have HB1:Hid (Below w.heap.size w w1):=hb1;clear hb1))
 go_ret
 exact⟨rfl,HB5.out⟩
theorem lim_yy (w:World) (s:ByteArray) (limit more:Int) (a b:Nat) (sx:ByteArray) (hsx:sx.toList.isEmpty=false) (t:Tb) (hsm:Small t) (h:LmC w s limit more a b (Ye t) (Ye t) sx 0 0) :
  Calls Tryz.prog 7 #[.string s,.int .i64 limit,.int .i64 more] w fun e w'=>e=.returned (.bool true)∧Below w.heap.size w w':=by
 have HH:Hid (LmC w s limit more a b (Ye t) (Ye t) sx 0 0):=h
 have HSM:Hid (Small t):=hsm
 have ha:=h.la
 have hb:=h.lb
 clear h hsm
 go_enter Tryz.func7,Tryz.ntmps7
 go_upto_region 18 with(first|(have hmk4:=HB4.out;go_at_call 14;refine(HH.out.c0 _).mono ?_;clear hmk4;rintro e w5 ⟨rfl,hb5⟩;have HB5:Hid (Below w.heap.size w w5):=HB4.out.trans (hb5.mono HB4.out.size);have HB45:Hid (Below w4.heap.size w4 w5):=hb5;clear hb5)|(go_at_call 25;refine(HH.out.ps _ HB3.out).mono ?_;rintro e w4 ⟨rfl,hb4⟩;have HB4:Hid (Below w.heap.size w w4):=HB3.out.trans (hb4.mono HB3.out.size);have HB34:Hid (Below w3.heap.size w3 w4):=hb4;clear hb4)|(go_at_call 14;refine(HH.out.c2 _ HB2.out).mono ?_;rintro e w3 ⟨⟨m',c',rfl,hm'⟩,hb3⟩;have HB3:Hid (Below w.heap.size w w3):=HB2.out.trans (hb3.mono HB2.out.size);have HB23:Hid (Below w2.heap.size w2 w3):=hb3;clear hb3)|(go_at_call 14;refine(HH.out.c1 _ HB1.out).mono ?_;rintro e w2 ⟨⟨m,c,rfl,hm⟩,hb2⟩;have HB2:Hid (Below w.heap.size w w2):=HB1.out.trans (hb2.mono HB1.out.size);clear hb2)|(have hmk1:=HMK.out;go_at_call 21;refine(HH.out.p2 _).mono ?_;clear hmk1;rintro e w' ⟨rfl,hw'⟩;obtain rfl:=hw'.symm)|(go_at_call 21;refine(HH.out.p1 _).mono ?_;rintro e w' ⟨rfl,hw'⟩;obtain rfl:=hw'.symm;have HMK:Hid True:=trivial)|(go_at_call 20;refine HH.out.pl.mono ?_;rintro e w1 ⟨rfl,hb1⟩;have HB1:Hid (Below w.heap.size w w1):=hb1;clear hb1))
 have HM5:Hid (Mch w5 m t c∧Mch w5 m' t c'):=by
  have h35:=HB34.out.trans (HB45.out.mono HB34.out.size)
  exact⟨(hm.below HB23.out).below h35,hm'.below h35⟩
 clear hm hm' HB1 HB2 HB3 HB4 HB23 HB34 HB45 HH HMK ha hb
 have HST:Hid (∀ W va vn va' vn',TabIn W t va vn→TabIn W t va' vn'→Calls Tryz.prog 26 #[tv t va vn,tv t va' vn'] W fun e w'=>e=.returned (.bool true)∧Below W.heap.size W w'):=fun W va vn va' vn' h h'=>sameTable_eq W t va vn va' vn' h h' HSM.out
 go_wp2_with (first|(have hmk7:=HB7.out;go_at_call 26;refine(HST.out _ _ _ _ _ (HT7.out.1.below ((Below.refl _ _).alloc (Nat.le_refl _) _)) (HT7.out.2.below ((Below.refl _ _).alloc (Nat.le_refl _) _))).mono ?_;clear hmk7;rintro e w8 ⟨rfl,hb8⟩;have HB8:Hid (Below w.heap.size w w8):=(HB7.out.alloc HB7.out.size _).trans (hb8.mono (by have:=HB7.out.size;simp;omega));clear hb8)|(have hmk6:=HB6.out;go_at_call 16;refine(mtable_any _ m' t c' HM6.out).mono ?_;clear hmk6;rintro e w7 ⟨tC,tD,gs',rfl,htn',hb7⟩;have HT7:Hid (TabIn w7 t (.slice (some ⟨tA,0,none⟩) t.acc.length t.acc.length) (.slice (some ⟨tB,0,none⟩) t.next.length t.next.length)∧TabIn w7 t (.slice (some ⟨tC,0,none⟩) t.acc.length t.acc.length) (.slice (some ⟨tD,0,none⟩) t.next.length t.next.length)):=⟨HT6.out.below hb7,htn'.tab⟩;have HB7:Hid (Below w.heap.size w w7):=HB6.out.trans (hb7.mono HB6.out.size);obtain⟨x0,x1,x2,x3,x4,x5⟩:=box6 ((hb7.block w6.heap.size (by simp)).trans (heap_alloc_new w6 _));have hs7:w6.heap.size<w7.heap.size:=(by have:=hb7.size;simp at this;omega);clear hb7 htn')|(go_at_call 16;refine(mtable_any _ m t c HM5.out.1).mono ?_;rintro e w6 ⟨tA,tB,gs,rfl,htn,hb6⟩;have HT6:Hid (TabIn (w6.alloc (.cells #[.bool t.front,.bool t.back,.int .i64 t.start,.string (ba t.cls),.slice (some ⟨tA,0,none⟩) t.acc.length t.acc.length,.slice (some ⟨tB,0,none⟩) t.next.length t.next.length] 33)) t (.slice (some ⟨tA,0,none⟩) t.acc.length t.acc.length) (.slice (some ⟨tB,0,none⟩) t.next.length t.next.length)):=htn.tab.below ((Below.refl _ _).alloc (Nat.le_refl _) _);have HM6:Hid (Mch (w6.alloc (.cells #[.bool t.front,.bool t.back,.int .i64 t.start,.string (ba t.cls),.slice (some ⟨tA,0,none⟩) t.acc.length t.acc.length,.slice (some ⟨tB,0,none⟩) t.next.length t.next.length] 33)) m' t c'):=(HM5.out.2.below hb6).below ((Below.refl _ _).alloc (Nat.le_refl _) _);have HB6:Hid (Below w.heap.size w (w6.alloc (.cells #[.bool t.front,.bool t.back,.int .i64 t.start,.string (ba t.cls),.slice (some ⟨tA,0,none⟩) t.acc.length t.acc.length,.slice (some ⟨tB,0,none⟩) t.next.length t.next.length] 33))):=(HB5.out.trans (hb6.mono HB5.out.size)).alloc (HB5.out.trans (hb6.mono HB5.out.size)).size _;clear hb6 htn))
 go_ret
 exact⟨rfl,HB8.out⟩
open Sx (Prt Cnt)
abbrev toG (r:(Int×Int) ⊕ Tb):World→World→Ending→Prop:=match r with
 |.inl x=>No x.1 x.2
 |.inr t=>Ye t
theorem comp_g (w W:World) (s:ByteArray) (limit:Int) (hS:Sx.Tabs w) (hT:TabZ w) (hs:s.size≤maxLen) (hb:Below w.heap.size w W) (r:(Int×Int) ⊕ Tb) (hr:compM s.data.toList limit=r) :
  Calls Tryz.prog 14 #[.string s,.int .i64 limit] W fun e w'=>toG r W w' e∧Below W.heap.size W w':=by
 refine(comp_any W s limit (tabs_at hS hb) (tabz_at hT hb) hs).mono ?_
 rintro e w' ⟨h,hb'⟩
 rw[hr] at h
 refine⟨?_,hb'⟩
 cases r with
 |inl x=>exact h
 |inr t=>
  obtain⟨m,c,h1,h2,-⟩:=h
  exact⟨m,c,h1,h2 _ (Hi.refl _ _)⟩
theorem tCs_ne (n:Nat):∀(cs:List (List Prt)),SizeOf.sizeOf cs≤n→cs≠[]→Sx.tCs cs≠[]:=by
 induction n with
 |zero=>
  intro cs h hne
  cases cs with
  |nil=>exact absurd rfl hne
  |cons c cs=>simp at h
 |succ n ih=>
  intro cs h hne
  cases cs with
  |nil=>exact absurd rfl hne
  |cons c cs=>
   cases cs with
   |cons d cs=>simp[Sx.tCs]
   |nil=>
    rw[Sx.tCs]
    cases c with
    |nil=>simp[Sx.tC]
    |cons p ps=>
     cases ps with
     |cons q ps=>simp[Sx.tC]
     |nil=>
      rw[Sx.tC]
      cases p with
      |mk g B ks=>
       cases g with
       |nil=>simp[Sx.tP,Sx.tBytes]
       |cons c cs'=>
        have:=ih (c::cs') (by simp at h ⊢;omega) (by simp)
        simp[Sx.tP,this]
theorem pkN_two (limit more:Int):pkN limit 200≤199∧pkN limit 200+pkN more (200-pkN limit 200)≤199:=by
 have h1:=pkN_lt limit 200 (by omega)
 have h2:=pkN_lt more (200-pkN limit 200) (by omega)
 omega
theorem limits_any (w:World) (s:ByteArray) (limit more:Int) (hS:Sx.Tabs w) (hT:TabZ w) (hs:s.size≤maxLen) (l1:-9223372036854775808≤limit) (l2:limit≤9223372036854775807) (m1:-9223372036854775808≤more) (m2:more≤9223372036854775807) :
  Calls Tryz.prog 7 #[.string s,.int .i64 limit,.int .i64 more] w fun e w'=>e=.returned (.bool true)∧Below w.heap.size w w':=by
 obtain⟨ha,hb⟩:=pkN_two limit more
 obtain⟨a,hae⟩:∃ a,a=pkN limit 200:=⟨_,rfl⟩
 obtain⟨b,hbe⟩:∃ b,b=pkN more (200-a):=⟨_,rfl⟩
 rw[←hae] at ha hb
 rw[←hbe] at hb
 have hmk:∀(r1 r2:(Int×Int) ⊕ Tb) (sx:ByteArray) (x y:Int),compM s.data.toList (1+(a:Int))=r1→compM s.data.toList (1+(a:Int)+(b:Int))=r2→(∀ e,Sx.ParseRes s e→e=.returned (.tuple #[.string sx,.int .i64 x,.int .i64 y]))→LmC w s limit more a b (toG r1) (toG r2) sx x y:=fun r1 r2 sx x y h1 h2 hp=>by
  refine⟨plain_yes w hS hT,fun W=>?_,fun W=>?_,ha,hb,fun W hW=>comp_g w W s _ hS hT hs hW r1 h1,fun W hW=>comp_g w W s _ hS hT hs hW r2 h2,fun W hW=>?_,fun W=>comp_arg W s 0 (by omega)⟩
  ·rw[hae];exact kpick_any W limit 200 l1 l2 (by omega) (by omega)
  ·have e:(200-(1+(a:Int))+1)=((200-a:Nat):Int):=by omega
   rw[e,hbe]
   exact kpick_any W more (200-a) m1 m2 (by omega) (by omega)
  ·refine(Sx.parse_any W s (tabs_at hS hW) hs).mono ?_
   rintro e w' ⟨h,hb'⟩
   exact⟨hp e h,hb'⟩
 clear hae hbe
 have hsl:s.data.toList.length=s.size:=by simp
 have hlim:∀ k:Int,1≤k→k≤200→¬(k<1∨200<k):=fun k h1 h2=>by omega
 by_cases h200:200<s.size
 ·have hc:∀ k:Int,1≤k→k≤200→compM s.data.toList k=.inl (4,0):=fun k h1 h2=>by unfold compM;rw[if_neg (hlim k h1 h2),hsl,if_pos h200]
  refine lim_nil w s limit more a b ⟨#[]⟩ 4 rfl (hmk _ _ _ _ _ (hc _ (by omega) (by omega)) (hc _ (by omega) (by omega)) ?_)
  rintro e (q|q|q|q)
  ·exact q.2
  all_goals exact absurd q.1 (by omega)
 ·cases hR:Sx.readP s.data.toList with
  |bad r'=>
   have hc:∀ k:Int,1≤k→k≤200→compM s.data.toList k=.inl (3,((s.size-r'.length:Nat):Int)):=fun k h1 h2=>by unfold compM;rw[if_neg (hlim k h1 h2),hsl,if_neg h200,hR]
   refine lim_syn w s hs limit more a b (s.size-r'.length) (by omega) (hmk _ _ _ _ _ (hc _ (by omega) (by omega)) (hc _ (by omega) (by omega)) ?_)
   rintro e (q|⟨-,r2,q1,q2⟩|⟨-,p,q1,-⟩|⟨-,p,q1,-⟩)
   ·exact absurd q.1 h200
   ·rw[hR] at q1;injection q1 with q1;subst q1;exact q2
   ·rw[hR] at q1;cases q1
   ·rw[hR] at q1;cases q1
  |ok p r'=>
   obtain rfl:=Sx.readP_rest hR
   by_cases hn:20<Sx.nestCs p.choices
   ·have hc:∀ k:Int,1≤k→k≤200→compM s.data.toList k=.inl (4,0):=fun k h1 h2=>by unfold compM;rw[if_neg (hlim k h1 h2),hsl,if_neg h200,hR];simp only;rw[if_pos hn]
    refine lim_nil w s limit more a b ⟨#[]⟩ 4 rfl (hmk _ _ _ _ _ (hc _ (by omega) (by omega)) (hc _ (by omega) (by omega)) ?_)
    rintro e (q|⟨-,r2,q1,q2⟩|⟨-,p2,q1,q2,q3⟩|⟨-,p2,q1,q2,-⟩)
    ·exact absurd q.1 h200
    ·rw[hR] at q1;cases q1
    ·exact q3
    ·rw[hR] at q1;injection q1 with q1;subst q1;omega
   ·have hc:∀ k:Nat,1≤k→k≤200→compM s.data.toList (k:Int)=match compT p k with|none=>.inl (4,0)|some t=>.inr t:=fun k h1 h2=>by unfold compM;rw[if_neg (hlim k (by omega) (by omega)),hsl,if_neg h200,hR];simp only;rw[if_neg hn,Int.toNat_natCast];cases compT p k<;>rfl
    have hpr:∀ e,Sx.ParseRes s e→e=.returned (.tuple #[.string ⟨(Sx.tPtn p).toArray⟩,.int .i64 0,.int .i64 0]):=by
     rintro e (q|⟨-,r2,q1,q2⟩|⟨-,p2,q1,q2,q3⟩|⟨-,p2,q1,q2,q3⟩)
     ·exact absurd q.1 h200
     ·rw[hR] at q1;cases q1
     ·rw[hR] at q1;injection q1 with q1;subst q1;omega
     ·rw[hR] at q1;injection q1 with q1;subst q1;exact q3
    have c1:=hc (1+a) (by omega) (by omega)
    have c2:=hc (1+a+b) (by omega) (by omega)
    rw[show((1+a:Nat):Int)=1+(a:Int) by omega] at c1
    rw[show((1+a+b:Nat):Int)=1+(a:Int)+(b:Int) by omega] at c2
    cases hM:searchM p (1+a) with
    |none=>
     have e1:compT p (1+a)=none:=by unfold compT;rw[hM];rfl
     rw[e1] at c1
     cases hM2:compT p (1+a+b) with
     |none=>rw[hM2] at c2;exact lim_nil w s limit more a b _ 0 rfl (hmk _ _ _ _ _ c1 c2 hpr)
     |some t=>rw[hM2] at c2;exact lim_ny w s limit more a b _ t (hmk _ _ _ _ _ c1 c2 hpr)
    |some t=>
     have e1:compT p (1+a)=some (tbOf (leastM t)):=by unfold compT;rw[hM];rfl
     have e2:compT p (1+a+b)=some (tbOf (leastM t)):=by unfold compT;rw[searchM_more (by omega) hM];rfl
     rw[e1] at c1
     rw[e2] at c2
     obtain⟨n,k,hn1,hk,hok⟩:=searchM_k (by omega) hM
     obtain⟨-,i2⟩:=least_small hok (by omega) hk
     refine lim_yy w s limit more a b _ ?_ _ i2 (hmk _ _ _ _ _ c1 c2 hpr)
     have hne:Sx.tPtn p≠[]:=by
      have h1:=(Sx.readP_txt (by rw[hsl];omega) hR).1
      have:=tCs_ne _ p.choices (Nat.le_refl _) h1
      unfold Sx.tPtn
      simp[this]
     rw[ByteArray.toList_mk]
     simpa using hne
theorem Sp.ext {n:Nat}{s t:W4} (h:Sp n s) (g:Sp n t) (e:∀ i,mem s i↔mem t i):s=t:=by
 have h0:s.x0=t.x0:=Nat.eq_of_testBit_eq (fun i=>by
  have:=e i
  unfold mem at this
  cases a:s.x0.testBit i<;>cases b:t.x0.testBit i<;>simp[a,b] at this ⊢)
 obtain⟨x0,x1,x2,x3⟩:=s
 obtain⟨y0,y1,y2,y3⟩:=t
 obtain⟨-,a1,a2,a3⟩:=h
 obtain⟨-,b1,b2,b3⟩:=g
 simp only at *
 subst_vars
 rfl
section
variable {α β γ δ ε:Type} [DecidableEq α] [DecidableEq β] [DecidableEq γ]
end
end Go.Proofs.YtbjabpodkaokjaaGreatDoor

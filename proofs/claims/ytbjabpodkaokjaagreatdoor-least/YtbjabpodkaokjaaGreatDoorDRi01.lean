import Derived.Test.YtbjabpodkaokjaaGreatDoorJ01
import Derived.WalkKit
import Derived.Below
import Derived.RowKit
import Derived.KernelRfl
import Derived.Test.YtbjabpodkaokjaaGreatDoorJ02
import Derived.Deep.AppendLies
import Derived.Laws.BitsLemmas
import Derived.Laws.Bits64
import Derived.Test.YtbjabpodkaokjaaGreatDoorJ03
import Derived.BigRegion
import Derived.BigQuiet
import Derived.Maps.Own
import Derived.Deep.RegionHeld3
import Derived.Deep.RegionLaw
import Derived.Deep.QuietTactic
import Derived.DeepKeys4
import Derived.OwnWalk
import Derived.Lib.LazyBuf
import Derived.Great.BuildSlice
import Derived.Test.YtbjabpodkaokjaaGreatDoorJ04
import Derived.Test.YtbjabpodkaokjaaGreatDoorJ05
import Derived.Test.YtbjabpodkaokjaaGreatDoorJ06
import Derived.Shelf.Spec.TrailingZeros
import Derived.Test.YtbjabpodkaokjaaGreatDoorJ07
import Derived.Maps.AppendAt
import Derived.Lib.AppendStr
import Derived.RangeFuncNested
import Derived.RangeFuncBound
import Derived.RangeFuncCalls
import Derived.RangeFuncLeaves
import Derived.RangeFuncFrom
import Derived.Shelf.Abstract
import Derived.Shelf.RegionOpen
import Derived.OwnWalkIn
import Derived.TacticsInMore
import Derived.LoopNIn
import Derived.LoopIn
import Derived.Lib.BufferRead
import Derived.Test.YtbjabpodkaokjaaGreatDoorJ08
import Derived.Test.YtbjabpodkaokjaaGreatDoorJ09
import Derived.Deep.CutRange
import Derived.Test.YtbjabpodkaokjaaGreatDoorJ10
import Derived.Test.YtbjabpodkaokjaaGreatDoorJ11
import Derived.Test.YtbjabpodkaokjaaGreatDoorJ12
import GoSem.Claim
import GoSem.ClaimJoined
import GoSem.ClaimMapViews
import Derived.WalkSpells
import Derived.WalkLawsBesides
import Derived.Deep.Light
import Derived.Test.YtbjabpodkaokjaaGreatDoorJ13
import Derived.Deep.RegionWith
import Derived.Test.YtbjabpodkaokjaaGreatDoorJ14
import Derived.Test.YtbjabpodkaokjaaGreatDoorJ15
import Derived.Deep.Draws
import Derived.Test.YtbjabpodkaokjaaGreatDoorJ16
import Derived.Test.YtbjabpodkaokjaaGreatDoorJ17
import Derived.Test.YtbjabpodkaokjaaGreatDoorJ18
import Derived.Test.YtbjabpodkaokjaaGreatDoorJ19
import Derived.Test.YtbjabpodkaokjaaGreatDoorJ20
import Derived.Test.YtbjabpodkaokjaaGreatDoorJ21
import Derived.Test.YtbjabpodkaokjaaGreatDoorJ22
import Derived.Test.YtbjabpodkaokjaaGreatDoorJ23
import Derived.Test.YtbjabpodkaokjaaGreatDoorJ24
import Derived.Test.YtbjabpodkaokjaaGreatDoorJ25
import Derived.Test.YtbjabpodkaokjaaGreatDoorJ26
import Derived.Test.YtbjabpodkaokjaaGreatDoorJ27
import Derived.Sort.CutIn
import Derived.Test.YtbjabpodkaokjaaGreatDoorJ28
import Derived.Great.Walk
import Derived.Test.YtbjabpodkaokjaaGreatDoorJ29
import Derived.Lib.BytesEntry
import Derived.Test.YtbjabpodkaokjaaGreatDoorJ30
import Derived.Test.YtbjabpodkaokjaaGreatDoorJ31
import Derived.Test.YtbjabpodkaokjaaGreatDoorJ32
import Derived.Test.YtbjabpodkaokjaaGreatDoorJ33
import Derived.Test.YtbjabpodkaokjaaGreatDoorJ34
import Derived.Test.YtbjabpodkaokjaaGreatDoorJ35
import Derived.Test.YtbjabpodkaokjaaGreatDoorJ36
import Derived.Test.YtbjabpodkaokjaaGreatDoorS01
import Derived.ProofKit
import Derived.LaidMore
import Derived.OpenShut
import Derived.Stop.Joined
import Derived.Deep.Strs
import Derived.Lib.LaidTab
import Derived.Test.YtbjabpodkaokjaaGreatDoorS02
import Derived.BigGuard
import Derived.Test.YtbjabpodkaokjaaGreatDoorS03
import Derived.Test.YtbjabpodkaokjaaGreatDoorS04
import Derived.Test.YtbjabpodkaokjaaGreatDoorS05
import Derived.Test.YtbjabpodkaokjaaGreatDoorS06
import Derived.Lib.ConvBytes
import Derived.Test.YtbjabpodkaokjaaGreatDoorS07
import Derived.Test.YtbjabpodkaokjaaGreatDoorS08
import Derived.Test.YtbjabpodkaokjaaGreatDoorS09
import Derived.SevenTiedAt
import Derived.ChangeSlices
import Derived.Carry
set_option linter.unusedVariables false
set_option linter.unusedSimpArgs false
set_option maxHeartbeats 4000000
set_option maxRecDepth 100000
namespace Go.Proofs.YtbjabpodkaokjaaGreatDoor
structure Fits (t:Tb) (c:Nat):Prop where
 a1:1≤t.acc.length
 a2:t.acc.length≤200
 n:t.next.length=t.acc.length
 cc:c≤256
 cls:t.cls.length=256
 st:okZ t.start
 r:∀ r∈t.next,r.length=c∧∀ z∈r,okZ z
section
variable {P:Program} (w:World)
end
theorem Kp.now {ρ:Nat→Nat}{q lim:Nat}{w:World}{F:World→Prop} (h:Kp ρ q lim w F):F w:=h w (Off.refl _ _ _ _)
open Go.RowKit
theorem Four.drewN {b off:Nat}{x w:World} (h:Four b off x w) (n:Nat):Four b off x (w.drewN n):=⟨h.os,h.tape,h.output,h.size,h.block,h.cell⟩
open Go.Maps (Keyed)
open Go.ChangeMaps (setBlock)
section
variable {P:Program}{k e t:TypeId}{w:World}{b:Nat}{vs:List Value}{x:Value}
end
open Go.RowKit
open Go.ChangeMaps (setBlock)
theorem Hi.drewN {lo:Nat}{w w':World} (h:Hi lo w w') (n:Nat):Hi lo w (w'.drewN n):=⟨h.size,h.block⟩
theorem TbOk.fits {t:Tb}{c:Nat} (h:TbOk t c):Fits t c:=by
 have h2:=h.c256
 have:=h.a2
 have:=h.s1
 have:=h.s2
 exact⟨h.a1,h.a2,h.n,h2.1,h2.2,⟨by omega,by omega⟩,fun r hr=>⟨(h.r r hr).1,fun z hz=>by have:=(h.r r hr).2 z hz;exact⟨this.1,by omega⟩⟩⟩
theorem Wst.drew {g:Nat}{x w:World} (h:Wst g x w):Wst g x w.drew:=⟨h.bl.drew,h.kp⟩
open Go.RowKit Go.Shelf
theorem Stb.on {g:Nat}{w w':World}{P:World→Prop} (h:Stb g w P) (hb:Below g w w'):Stb g w' P:=fun w2 h2=>h w2 (hb.trans h2)
section
variable {w1 wr w2:World}{g tb:Nat}{big:Bool}{l l':List UInt8}{f bk:Bool}{st:Int}{cls:List UInt8}{va vn:Value}{acc:List Bool}{us:List Value}{rows:List (List Int)}
end
open Go.RowKit
section
variable {w wr w2:World}{f b:Bool}{st:Int}{cls:List UInt8}{n tT tA tB lo:Nat}{acc:List Bool}{next:List (List Int)}{gs:List Nat}{ka k:Nat}
end
open Go.RowKit
theorem TabN.below {lo:Nat}{w w':World}{t:Tb}{tA tB:Nat}{gs:List Nat} (h:TabN lo w t tA tB gs) (hb:Below w.heap.size w w'):TabN lo w' t tA tB gs:=by
 have hz:=hb.size
 obtain⟨o1,o2,o3,o4,o5,o6⟩:=h.o
 exact⟨h.na.of_block (hb.block _ o4),h.nb.of_block (hb.block _ o5),h.gl,fun j hj=>⟨(h.rows j hj).1.of_block (hb.block _ (h.rows j hj).2.2),(h.rows j hj).2.1,by have:=(h.rows j hj).2.2;omega⟩,h.mono,⟨o1,o2,o3,by omega,by omega,o6⟩⟩
open Go.RowKit Go.Shelf
theorem mtable_any (w:World) (m:Nat) (t:Tb) (c:Nat) (h:Mch w m t c) :
  Calls Tryz.prog 16 #[.pointer (some ⟨m,0,none⟩)] w fun e w'=>∃ tA tB gs,e=.returned (.tuple #[tv t (.slice (some ⟨tA,0,none⟩) t.acc.length t.acc.length) (.slice (some ⟨tB,0,none⟩) t.next.length t.next.length),.int .i64 0])∧TabN w.heap.size w' t tA tB gs∧Below w.heap.size w w':=by
 obtain⟨g,h1,h2,h3⟩:=h
 have hB:Below w.heap.size w (w.alloc (.cells tc0 33)):=(Below.refl _ _).alloc (Nat.le_refl _) _
 have hl:=table_any (w.alloc (.cells tc0 33)) g t c (h2.below hB) h3
 have h1':=cell_below hB h1
 have HB:Hid (Below w.heap.size w (w.alloc (.cells tc0 33))):=hB
 rw[World.size_alloc] at hl
 clear h2 h3 hB
 go_enter Tryz.func16,Tryz.ntmps16
 go_wp2_with (go_at_call 50;refine hl.mono ?_;rintro e w1 ⟨tA,tB,gs,rfl,hn,hb⟩;obtain⟨r0,r1,r2,r3,r4,r5⟩:=box6 ((hb.block w.heap.size (by omega)).trans (heap_alloc_new w _));have rf:=boxfz ((hb.block w.heap.size (by omega)).trans (heap_alloc_new w (.cells tc0 33)));have HN:Hid (TabN (w.heap.size+1) w1 t tA tB gs):=hn;have HB1:Hid (Below w.heap.size w w1):=HB.out.trans (hb.mono (by omega));clear hb hn)
 refine bodyPost_ret (v:=.tuple #[tv t (.slice (some ⟨tA,0,none⟩) t.acc.length t.acc.length) (.slice (some ⟨tB,0,none⟩) t.next.length t.next.length),.int .i64 0]) (by simp[results,Tryz.results16,go_sem,r0,r1,r2,r3,r4,r5]) rfl ?_
 refine⟨tA,tB,gs,rfl,?_,?_⟩
 ·exact((((((HN.out.set (by omega) _ _).set (by omega) _ _).set (by omega) _ _).set (by omega) _ _).set (by omega) _ _).set (by omega) _ _).weak (by omega)
 ·exact(by(repeat first|(with_reducible refine Below.setCell ?_ (by first|exact Nat.le_refl _|(simp;done)|(simp;omega)) _)|(with_reducible refine Below.alloc ?_ (by first|omega|(simp;done)|(simp;omega)) _)|(with_reducible refine Below.drew ?_));exact HB1.out)
end Go.Proofs.YtbjabpodkaokjaaGreatDoor
namespace Go.Proofs.YtbjabpodkaokjaaGreatDoor.Sx
def hexv (c:Int):Int:=if 48≤c then(if c≤57 then c-48 else if 97≤c then(if c≤102 then c-97+10 else -1) else -1) else -1
def Md.to (m:Md) (k:Int):Md:={m with M:=k}
def Md.byteItem (m:Md) (v:Int):Md:=
 if 0≤m.Low then(if v<m.Low then m.to 16 else {m with Low:=-1,M:=9})
 else {m with Value:=v,M:=8}
def Md.one (m:Md) (v:Int):Md:=if m.Class then m.byteItem v else m.to 2
def Md.escape (m:Md) (c:Int):Md:=
 if isSignB c||c==45 then m.one c
 else if c==110 then m.one 10
 else if c==116 then m.one 9
 else if c==120 then m.to 4
 else if (c==100||c==119||c==115)&&!m.Class then m.to 2
 else if (c==100||c==119||c==115)&&m.Low<0 then m.to 9
 else m.to 16
def Md.cls (m:Md) (c:Int):Md:=
 if c==94&&m.M==6 then m.to 7
 else if c==92 then {m with Class:=true,M:=3}
 else if c==93&&(m.M==8||m.M==9) then {m with Class:=false,M:=2}
 else if c==45&&m.M==8 then {m with Low:=m.Value,M:=10}
 else if c==91||c==93||c==94||c==45 then m.to 16
 else m.byteItem c
def reachesB (v lo:Int):Bool:=(List.range 31).any fun n=>decide (lo≤n)&&(n==v||(decide (0<v)&&(n:Int) / 10==v))
def Md.count (m:Md) (c:Int):Md:=
 let digit:=decide (48≤c)&&decide (c≤57)
 let v:=(if digit then c-48 else 0)+(if m.M==12||m.M==14 then 10*m.N else 0)
 let lo:=if m.M==13||m.M==14 then m.Least else 0
 let fits:=reachesB v lo
 if digit&&fits&&(m.M==11||m.M==13) then {m with N:=v,M:=m.M+1}
 else if digit&&fits&&decide (0<m.N)&&(m.M==12||m.M==14) then {m with N:=v}
 else if c==44&&m.M==12 then {m with Least:=m.N,M:=13}
 else if c==125&&(m.M==12||m.M==13||(m.M==14&&decide (m.Least≤m.N))) then m.to 2
 else m.to 16
def Md.group (m:Md) (c:Int):Md:=
 if c==40 then {m with Depth:=m.Depth+1,Most:=if m.Most<m.Depth+1 then m.Depth+1 else m.Most,M:=1}
 else if m.Depth==0 then m.to 16
 else {m with Depth:=m.Depth-1,M:=2}
def Md.chain (m:Md) (c:Int):Md:=
 if c==94 then(if m.M==0 then m.to 1 else m.to 16)
 else if c==36 then(if m.Depth==0 then m.to 15 else m.to 16)
 else if c==124 then m.to 1
 else if c==40||c==41 then m.group c
 else if c==91 then {m with Low:=-1,M:=6}
 else if c==92 then {m with Class:=false,Low:=-1,M:=3}
 else if c==42||c==43||c==63 then(if m.M==2 then m else m.to 16)
 else if c==123 then(if m.M==2 then m.to 11 else m.to 16)
 else if c==125||c==93 then m.to 16
 else m.to 2
def Md.step (m:Md) (c:Int):Md:=
 if m.M==0||m.M==1||m.M==2 then m.chain c
 else if m.M==3 then m.escape c
 else if m.M==4 then(if hexv c<0||16*hexv c+15<m.Low then m.to 16 else {m with Value:=hexv c,M:=5})
 else if m.M==5 then(if hexv c<0||16*m.Value+hexv c<m.Low then m.to 16 else m.one (16*m.Value+hexv c))
 else if m.M==6||m.M==7||m.M==8||m.M==9 then m.cls c
 else if m.M==10 then(if c==92 then {m with Class:=true,M:=3} else if c==91||c==93||c==94||c==45 then m.to 16 else m.byteItem c)
 else if m.M==11||m.M==12||m.M==13||m.M==14 then m.count c
 else m.to 16
open Go.RowKit
theorem RdAt.drew {w:World}{b:Nat}{s:ByteArray}{k:Nat}{d e:Int} (h:RdAt w b s k d e):RdAt w.drew b s k d e:=⟨h.c0,h.c1,h.c2,h.c3,h.fz,h.lt⟩
theorem RdAt.below {w w':World}{B b:Nat}{s:ByteArray}{k:Nat}{d e:Int} (h:RdAt w b s k d e) (hb:Below B w w') (hB:b<B):RdAt w' b s k d e:=
 ⟨(hb.cell hB).trans h.c0,(hb.cell hB).trans h.c1,(hb.cell hB).trans h.c2,(hb.cell hB).trans h.c3,fun o=>(hb.frozen (p:=⟨b,o,none⟩) hB).trans (h.fz o),Nat.lt_of_lt_of_le h.lt hb.size⟩
theorem Four.drewN {b off:Nat}{x w:World} (h:Four b off x w) (n:Nat):Four b off x (w.drewN n):=⟨h.os,h.tape,h.output,h.size,h.block,h.cell⟩
theorem ByteRes.mk {w w':World}{b:Nat}{s:ByteArray}{d x:Int}{e:Ending}{R:Res Nat} (h:e=.returned (.tuple #[.int .u8 R.val0,.bool R.isOk])) (hv:R.val0<256) (g:StTo w w' b s R.rest d x):ByteRes w w' b s d x e R:=by
 cases R with
 |ok v r=>exact⟨h,hv,g⟩
 |bad r=>exact⟨0,h,g⟩
open Go
theorem Grew.drew {w w1:World}{v v1:Value} (h:Grew w w1 v v1):Grew w w1.drew v v1:=⟨⟨h.g.os,h.g.tape,h.g.output,h.g.size,h.g.block⟩,h.o⟩
theorem Grew.drewN {w w1:World}{v v1:Value} (h:Grew w w1 v v1) (n:Nat):Grew w (w1.drewN n) v v1:=⟨⟨h.g.os,h.g.tape,h.g.output,h.g.size,h.g.block⟩,h.o⟩
theorem Grew.step {w w1 w2:World}{v v1 v2:Value} (h:Grew w w1 v v1) (g:w1.grownBy w2 v1.ownBlock) (o:v2.ownBlock=v1.ownBlock∨v2.ownBlock=some w1.heap.size):Grew w w2 v v2:=
 h.trans ⟨g,o.imp id fun e=>⟨_,e,Nat.le_refl _⟩⟩
theorem Grew.below {w w1 w2:World}{v v1:Value} (h:Grew w w1 v v1) (b:Go.RowKit.Below w1.heap.size w1 w2):Grew w w2 v v1:=
 h.trans ⟨⟨b.os,b.tape,b.output,b.size,fun k hk _=>b.block k hk⟩,.inl rfl⟩
theorem buf_below {w w':World}{base:Nat}{v:Value}{bs:List UInt8} (h:Buf w base v bs) (hb:Below w.heap.size w w'):Buf w' base v bs:=by
 refine World.ownsRow.kept h (row:=none) ⟨hb.os,hb.tape,hb.output,hb.size,fun k hk _=>hb.block k hk⟩ ?_
 cases e:v.ownBlock with
 |none=>exact .inl rfl
 |some k=>exact .inr (by simp)
theorem Keeps.drew {x w:World} (h:Keeps x w):Keeps x w.drew:=⟨h.size,h.block⟩
theorem Keeps.below {x w w':World} (h:Keeps x w) (hb:Below w.heap.size w w'):Keeps x w':=h.trans ⟨hb.size,fun g hg _=>hb.block g hg⟩
theorem Out.below {base:Nat}{x w w':World}{v:Value}{bs:List UInt8} (h:Out base x w v bs) (hb:base≤w.heap.size) (hw:Below w.heap.size w w'):Out base x w' v bs:=⟨buf_below h.buf hw,h.bl.trans (hw.mono hb),h.kp.below hw⟩
end Go.Proofs.YtbjabpodkaokjaaGreatDoor.Sx
namespace Go.Proofs.YtbjabpodkaokjaaGreatDoor
open Sx (Prt Cnt)
section
variable {α:Type} [DecidableEq α]
end
open Sx (Prt Cnt)
open Go.RowKit
section
variable {S:Nat}{wS:World}{fb n:Nat}{W W':World}{v:Value}{met:List (List UInt8)}{f:Nat→Value}
end
open Go.RowKit
section
variable {α β:Type} [DecidableEq α] [DecidableEq β]
theorem nodup_sub:∀ {E L:List β},E.Nodup→(∀ x∈E,x∈L)→E.length≤L.length
 |[],L,_,_=>by simp
 |a::E,L,hd,hs=>by
  have h1:a∈L:=hs a (by simp)
  have h2:=List.nodup_cons.1 hd
  have:=nodup_sub (L:=L.erase a) h2.2 (fun x hx=>by
   have hne:x≠a:=fun e=>h2.1 (e▸hx)
   exact(List.mem_erase_of_ne hne).2 (hs x (by simp[hx])))
  have h3:=List.length_erase_of_mem h1
  have h4:0<L.length:=List.length_pos_of_mem h1
  simp only[List.length_cons];omega
theorem card_inj {xs:List α} (f:α→β) (h:(metL [] xs).length≤(metL [] (xs.map f)).length) {a b:α} (ha:a∈xs) (hb:b∈xs) (e:f a=f b):a=b:=by
 rcases Decidable.em (a=b) with q|q
 ·exact q
 ·exfalso
  have hD:(metL [] xs).Nodup:=metL_nodup List.nodup_nil xs
  have hE:(metL [] (xs.map f)).Nodup:=metL_nodup List.nodup_nil _
  have haD:a∈metL [] xs:=mem_metL.2 (.inr ha)
  have hbD:b∈metL [] xs:=mem_metL.2 (.inr hb)
  have:=nodup_sub (L:=((metL [] xs).erase a).map f) hE (fun y hy=>by
   rcases mem_metL.1 hy with q2|q2
   ·simp at q2
   ·obtain⟨x,hx,rfl⟩:=List.mem_map.1 q2
    by_cases hxa:x=a
    ·subst hxa
     rw[e]
     exact List.mem_map.2 ⟨b,(List.mem_erase_of_ne (Ne.symm q)).2 hbD,rfl⟩
    ·exact List.mem_map.2 ⟨x,(List.mem_erase_of_ne hxa).2 (mem_metL.2 (.inr hx)),rfl⟩)
  rw[List.length_map,List.length_erase_of_mem haD] at this
  have h4:0<(metL [] xs).length:=List.length_pos_of_mem haD
  omega
theorem ixL_inj {l:List α}{a b:α} (ha:a∈l) (hb:b∈l) (e:ixL l a=ixL l b):a=b:=by
 have h1:=ixL_lt ha
 have h2:=ixL_lt hb
 unfold ixL at h1 h2 e
 rw[←List.getElem_idxOf h1,←List.getElem_idxOf h2]
 simp only[e]
theorem pushM_map {m:List α}{x:α} (f:α→β) (hi:∀ a∈m,f a=f x→a=x):(pushM m x).map f=pushM (m.map f) (f x):=by
 unfold pushM
 by_cases h:x∈m
 ·rw[if_pos h,if_pos (List.mem_map.2 ⟨x,h,rfl⟩)]
 ·rw[if_neg h,if_neg (fun q=>by obtain⟨a,ha,e⟩:=List.mem_map.1 q;exact h (hi a ha e▸ha))]
  simp
theorem metL_map (f:α→β):∀ {xs m:List α},(∀ a∈m++xs,∀ b∈m++xs,f a=f b→a=b)→metL (m.map f) (xs.map f)=(metL m xs).map f
 |[],m,_=>rfl
 |x::xs,m,h=>by
  rw[List.map_cons,metL_cons,metL_cons,←pushM_map f (fun a ha e=>h a (by simp[ha]) x (by simp) e)]
  refine metL_map f (fun a ha b hb e=>h a ?_ b ?_ e)
  ·rcases List.mem_append.1 ha with q|q
   ·rcases mem_pushM.1 q with q|rfl
    ·simp[q]
    ·simp
   ·simp[q]
  ·rcases List.mem_append.1 hb with q|q
   ·rcases mem_pushM.1 q with q|rfl
    ·simp[q]
    ·simp
   ·simp[q]
end
def Stab (next:List (List Nat)) (bl:List UInt8):Prop:=∀ i j (hi:i<next.length) (hj:j<next.length),bl.getD i 0=bl.getD j 0→lookM bl i next[i]=lookM bl j next[j]
theorem looksM_len (bl:List UInt8) (next:List (List Nat)):(looksM bl next).length=next.length:=by simp[looksM]
theorem looksM_at {bl:List UInt8}{next:List (List Nat)}{i:Nat} (h:i<next.length):(looksM bl next)[i]'(by rw[looksM_len];exact h)=lookM bl i next[i]:=by simp[looksM]
theorem looks_head {bl:List UInt8}{next:List (List Nat)} (h:bl.length=next.length):(looksM bl next).map (fun l=>l.getD 0 0)=bl:=by
 refine List.ext_getElem (by rw[List.length_map,looksM_len,h]) fun i h1 h2=>?_
 have hi:i<next.length:=by simpa [looksM_len] using h1
 rw[List.getElem_map,looksM_at hi]
 simp[lookM,List.getD_eq_getElem?_getD,List.getElem?_eq_getElem h2]
def byLook (bl:List UInt8) (next:List (List Nat)):List UInt8:=(looksM bl next).map fun l=>UInt8.ofNat (ixL (metL [] (looksM bl next)) l)
theorem byLook_len (bl:List UInt8) (next:List (List Nat)):(byLook bl next).length=next.length:=by simp[byLook,looksM_len]
theorem ofNat_inj {a b:Nat} (ha:a<256) (hb:b<256) (e:UInt8.ofNat a=UInt8.ofNat b):a=b:=by
 have:=congrArg UInt8.toNat e
 simpa [UInt8.toNat_ofNat',Nat.mod_eq_of_lt ha,Nat.mod_eq_of_lt hb] using this
theorem byLook_inj {bl:List UInt8}{next:List (List Nat)} (hn:next.length≤200) {a b:List UInt8} (ha:a∈looksM bl next) (hb:b∈looksM bl next) (e:UInt8.ofNat (ixL (metL [] (looksM bl next)) a)=UInt8.ofNat (ixL (metL [] (looksM bl next)) b)):a=b:=by
 have hl:=metL_len [] (looksM bl next)
 rw[looksM_len] at hl
 simp at hl
 have h1:ixL (metL [] (looksM bl next)) a<_:=ixL_lt (mem_metL.2 (.inr ha))
 have h2:ixL (metL [] (looksM bl next)) b<_:=ixL_lt (mem_metL.2 (.inr hb))
 have h3:=ofNat_inj (by omega) (by omega) e
 exact ixL_inj (mem_metL.2 (.inr ha)) (mem_metL.2 (.inr hb)) h3
theorem byLook_at {bl:List UInt8}{next:List (List Nat)}{i:Nat} (h:i<next.length):(byLook bl next).getD i 0=UInt8.ofNat (ixL (metL [] (looksM bl next)) (lookM bl i next[i])):=by
 have h1:i<(byLook bl next).length:=by rw[byLook_len];exact h
 rw[List.getD_eq_getElem?_getD,List.getElem?_eq_getElem h1,Option.getD_some]
 simp only[byLook,List.getElem_map]
 rw[looksM_at h]
theorem byLook_eq {bl:List UInt8}{next:List (List Nat)} (hn:next.length≤200) {i j:Nat} (hi:i<next.length) (hj:j<next.length):(byLook bl next).getD i 0=(byLook bl next).getD j 0↔lookM bl i next[i]=lookM bl j next[j]:=by
 rw[byLook_at hi,byLook_at hj]
 constructor
 ·exact byLook_inj hn (by rw[←looksM_at hi];exact List.getElem_mem _) (by rw[←looksM_at hj];exact List.getElem_mem _)
 ·intro e;rw[e]
theorem splitM_succ (next:List (List Nat)) (f:Nat) (bl:List UInt8) (many:Nat):splitM next (f+1) bl many=if many<(metL [] (looksM bl next)).length then splitM next f (byLook bl next) (metL [] (looksM bl next)).length else bl:=rfl
theorem splitM_stab (next:List (List Nat)) (hn:next.length≤200):∀(f:Nat) (bl:List UInt8) (many:Nat),bl.length=next.length→many≤(metL [] bl).length→200<f+many→Stab next (splitM next f bl many)
 |0,bl,many,hl,hm,hf=>by
  have:=metL_len [] bl
  simp at this
  omega
 |f+1,bl,many,hl,hm,hf=>by
  rw[splitM_succ]
  split
  ·rename_i hlt
   refine splitM_stab next hn f _ _ (byLook_len _ _) ?_ (by omega)
   have:=metL_map (fun l=>UInt8.ofNat (ixL (metL [] (looksM bl next)) l)) (xs:=looksM bl next) (m:=[]) (fun a ha b hb e=>byLook_inj hn (by simpa using ha) (by simpa using hb) e)
   simp only[List.map_nil] at this
   unfold byLook
   rw[this,List.length_map]
   exact Nat.le_refl _
  ·rename_i hge
   intro i j hi hj e
   refine card_inj (fun l:List UInt8=>l.getD 0 0) (xs:=looksM bl next) ?_ (by rw[←looksM_at hi];exact List.getElem_mem _) (by rw[←looksM_at hj];exact List.getElem_mem _) (by simpa [lookM] using e)
   rw[looks_head hl];omega
structure Bis (next:List (List Nat)) (R:Nat→Nat→Prop):Prop where
 r:∀ i j,R i j→i<next.length∧j<next.length
 s:∀ i j (hi:i<next.length) (hj:j<next.length),R i j→next[i].length=next[j].length∧∀ c (h1:c<next[i].length) (h2:c<next[j].length),R (next[i][c]) (next[j][c])
theorem look_bis {next:List (List Nat)}{R:Nat→Nat→Prop} (h:Bis next R) {bl:List UInt8} (hb:∀ i j,R i j→bl.getD i 0=bl.getD j 0) {i j:Nat} (hi:i<next.length) (hj:j<next.length) (e:R i j):lookM bl i next[i]=lookM bl j next[j]:=by
 obtain⟨h1,h2⟩:=h.s i j hi hj e
 unfold lookM
 rw[hb i j e]
 congr 1
 refine List.ext_getElem (by simp[h1]) fun c q1 q2=>?_
 simp only[List.getElem_map]
 exact hb _ _ (h2 c (by simpa using q1) (by simpa using q2))
theorem splitM_bis {next:List (List Nat)} (hn:next.length≤200) {R:Nat→Nat→Prop} (h:Bis next R):∀(f:Nat) (bl:List UInt8) (many:Nat),(∀ i j,R i j→bl.getD i 0=bl.getD j 0)→∀ i j,R i j→(splitM next f bl many).getD i 0=(splitM next f bl many).getD j 0
 |0,bl,many,hb=>hb
 |f+1,bl,many,hb=>by
  rw[splitM_succ]
  split
  ·exact splitM_bis hn h f _ _ (fun i j e=>by
    obtain⟨hi,hj⟩:=h.r i j e
    exact(byLook_eq hn hi hj).2 (look_bis h hb hi hj e))
  ·exact hb
theorem splitM_ref {next:List (List Nat)} (hn:next.length≤200) {i j:Nat} (hi:i<next.length) (hj:j<next.length):∀(f:Nat) (bl:List UInt8) (many:Nat),(splitM next f bl many).getD i 0=(splitM next f bl many).getD j 0→bl.getD i 0=bl.getD j 0
 |0,bl,many,e=>e
 |f+1,bl,many,e=>by
  rw[splitM_succ] at e
  split at e
  ·have:=(byLook_eq hn hi hj).1 (splitM_ref hn hi hj f _ _ e)
   unfold lookM at this
   injection this
  ·exact e
theorem TnOk.row {n k:Nat}{t:Tn} (h:TnOk n k t) {i:Nat} (hi:i<n):(t.next.getD i []).length=k:=by
 rw[getD_at (by rw[h.nl];exact hi)]
 exact(h.r _ (List.getElem_mem _)).1
theorem TnOk.nx_lt {n k:Nat}{t:Tn} (h:TnOk n k t) {i c:Nat} (hi:i<n) (hc:c<k):nx t i c<n:=by
 have h1:i<t.next.length:=by rw[h.nl];exact hi
 have h2:=h.r _ (List.getElem_mem h1)
 unfold nx
 rw[getD_at h1,getD_at (by rw[h2.1];exact hc)]
 exact h2.2 _ (List.getElem_mem _)
theorem blM_len {n k:Nat}{t:Tn} (h:TnOk n k t):(blM t).length=n:=(splitM_len _ _ _ _ (by simp[bkOf,h.al,h.nl])).trans h.nl
theorem bkOf_at (acc:List Bool) {i:Nat} (h:i<acc.length):(bkOf acc).getD i 0=if acc.getD i false then 1 else 0:=by
 rw[getD_at (by simp[bkOf,h]),getD_at h];simp[bkOf]
theorem bl_stab {n k:Nat}{t:Tn} (h:TnOk n k t) (hn:n≤200) {i j:Nat} (hi:i<n) (hj:j<n) (e:(blM t).getD i 0=(blM t).getD j 0):ac t i=ac t j∧∀ c,c<k→(blM t).getD (nx t i c) 0=(blM t).getD (nx t j c) 0:=by
 have hi':i<t.next.length:=by rw[h.nl];exact hi
 have hj':j<t.next.length:=by rw[h.nl];exact hj
 constructor
 ·have:=splitM_ref (by rw[h.nl];exact hn) hi' hj' 202 (bkOf t.acc) 0 e
  rw[bkOf_at _ (by rw[h.al];exact hi),bkOf_at _ (by rw[h.al];exact hj)] at this
  unfold ac
  generalize t.acc.getD i false=a at this ⊢
  generalize t.acc.getD j false=b at this ⊢
  cases a<;>cases b<;>simp at this ⊢
 ·intro c hc
  have hs:=splitM_stab t.next (by rw[h.nl];exact hn) 202 (bkOf t.acc) 0 (by simp[bkOf,h.al,h.nl]) (Nat.zero_le _) (by omega) i j hi' hj' e
  unfold lookM at hs
  injection hs with _ hs
  have r1:=(h.r _ (List.getElem_mem hi')).1
  have r2:=(h.r _ (List.getElem_mem hj')).1
  have h3:=congrArg (fun l=>l[c]?) hs
  simp only[List.getElem?_map] at h3
  rw[List.getElem?_eq_getElem (by rw[r1];exact hc),List.getElem?_eq_getElem (by rw[r2];exact hc)] at h3
  simp only[Option.map_some,Option.some.injEq] at h3
  unfold nx
  rw[getD_at hi',getD_at hj',getD_at (l:=t.next[i]) (by rw[r1];exact hc),getD_at (l:=t.next[j]) (by rw[r2];exact hc)]
  exact h3
def BisT (n k:Nat) (t:Tn) (R:Nat→Nat→Prop):Prop:=∀ i j,R i j→i<n∧j<n∧ac t i=ac t j∧∀ c,c<k→R (nx t i c) (nx t j c)
theorem bl_bis {n k:Nat}{t:Tn} (h:TnOk n k t) (hn:n≤200) {R:Nat→Nat→Prop} (hR:BisT n k t R) {i j:Nat} (e:R i j):(blM t).getD i 0=(blM t).getD j 0:=by
 refine splitM_bis (by rw[h.nl];exact hn) ⟨fun i j e=>?_,fun i j hi hj e=>?_⟩ 202 (bkOf t.acc) 0 (fun i j e=>?_) i j e
 ·rw[h.nl];exact⟨(hR i j e).1,(hR i j e).2.1⟩
 ·have r1:=(h.r _ (List.getElem_mem hi)).1
  have r2:=(h.r _ (List.getElem_mem hj)).1
  refine⟨r1.trans r2.symm,fun c h1 h2=>?_⟩
  have:=(hR i j e).2.2.2 c (by omega)
  unfold nx at this
  rwa [getD_at hi,getD_at hj,getD_at h1,getD_at h2] at this
 ·obtain⟨h1,h2,h3,-⟩:=hR i j e
  rw[bkOf_at _ (by rw[h.al];exact h1),bkOf_at _ (by rw[h.al];exact h2)]
  unfold ac at h3
  rw[h3]
theorem colM_at {n k:Nat}{t:Tn} (h:TnOk n k t) (bl:List UInt8) {c d:Nat}:colM bl t.next c=colM bl t.next d↔∀ q,q<n→bl.getD (nx t q c) 0=bl.getD (nx t q d) 0:=by
 constructor
 ·intro e q hq
  have hq':q<t.next.length:=by rw[h.nl];exact hq
  have h3:=congrArg (fun l=>l[q]?) e
  simp only[colM,List.getElem?_map,List.getElem?_eq_getElem hq',Option.map_some,Option.some.injEq] at h3
  unfold nx
  rw[getD_at hq']
  exact h3
 ·intro e
  unfold colM
  refine List.map_congr_left (fun row hr=>?_)
  obtain⟨q,hq,rfl⟩:=List.mem_iff_getElem.1 hr
  have:=e q (by rw[←h.nl];exact hq)
  unfold nx at this
  rwa [getD_at hq] at this
structure LsT (n k:Nat) (t:Tn) (n' k':Nat) (L:Tn):Prop where
 nn:n'≤n
 ok:TnOk n' k' L
 st:∀ R,BisT n' k' L R→∀ a b,R a b→a=b
 cl:∀ c d,c<k'→d<k'→c≠d→∃ i,i<n'∧nx L i c≠nx L i d
theorem leastM_lst {n k:Nat}{t:Tn} (h:TnFull n k t) (hn:n≤200):∃ n' k',LsT n k t n' k' (leastM t):=by
 obtain⟨n',k',hn',hok'⟩:=leastM_ok h.ok
 have hok:=h.ok
 have hbl:=blM_len hok
 have h1:=hok.n1
 obtain⟨x,hx⟩:=leastB_some t (blM t)
 have hL:leastM t=⟨t.front,t.back,(colsM t (blM t)).map (ixL (metL [] (colsM t (blM t)))),x.1.map fun b=>t.acc.getD ((blM t).idxOf b) false,x.2⟩:=by unfold leastM;rw[hx]
 have hst:∀ {i j},i<n→j<n→(blM t).getD i 0=(blM t).getD j 0→ac t i=ac t j∧∀ c,c<k→(blM t).getD (nx t i c) 0=(blM t).getD (nx t j c) 0:=fun hi hj e=>bl_stab hok hn hi hj e
 have hbis:∀ R,BisT n k t R→∀ i j,R i j→(blM t).getD i 0=(blM t).getD j 0:=fun R hR i j e=>bl_bis hok hn hR e
 obtain⟨bl,hb⟩:∃ bl,bl=blM t:=⟨_,rfl⟩
 rw[←hb] at hbl hx hL hst hbis
 obtain⟨cols,hcs⟩:∃ cols,cols=colsM t bl:=⟨_,rfl⟩
 obtain⟨olds,hol⟩:∃ olds,olds=oldsM t.cls cols:=⟨_,rfl⟩
 unfold leastB at hx
 rw[←hcs,←hol] at hx
 rw[←hcs] at hL
 have hcl:cols.length=t.cls.length:=by rw[hcs];simp[colsM]
 have hoc:olds.length=(metL [] cols).length:=by rw[hol];simp[oldsM]
 have hcat:∀ i (hi:i<t.cls.length),cols[i]'(by rw[hcl];exact hi)=colM bl t.next t.cls[i]:=fun i hi=>by simp only[hcs,colsM,List.getElem_map]
 have hO1:∀ c' (hc:c'<olds.length),olds[c']<k∧colM bl t.next olds[c']=(metL [] cols)[c']'(by rw[←hoc];exact hc):=fun c' hc=>by
  have hm:(metL [] cols)[c']'(by rw[←hoc];exact hc)∈cols:=by
   rcases mem_metL.1 (List.getElem_mem (l:=metL [] cols) (n:=c') (by rw[←hoc];exact hc)) with q|q
   ·simp at q
   ·exact q
  have hi:=ixL_lt hm
  have hi':ixL cols ((metL [] cols)[c']'(by rw[←hoc];exact hc))<t.cls.length:=by rw[←hcl];exact hi
  have e:olds[c']=t.cls[ixL cols ((metL [] cols)[c']'(by rw[←hoc];exact hc))]:=by
   simp only[hol,oldsM,List.getElem_map]
   exact getD_at hi' 0
  rw[e]
  exact⟨hok.ck _ (List.getElem_mem _),by rw[←hcat _ hi',ixL_get hm]⟩
 have hO2:∀ c,c<k→∃ c',∃ hc:c'<olds.length,∀ q,q<n→bl.getD (nx t q olds[c']) 0=bl.getD (nx t q c) 0:=fun c hc=>by
  obtain⟨i,hi,e⟩:=List.mem_iff_getElem.1 (h.su c hc)
  have hm:colM bl t.next c∈metL [] cols:=mem_metL.2 (.inr (by rw[←e,←hcat i hi];exact List.getElem_mem _))
  have hlt:=ixL_lt hm
  refine⟨ixL (metL [] cols) (colM bl t.next c),by rw[hoc];exact hlt,?_⟩
  refine(colM_at hok bl).1 ?_
  rw[(hO1 _ _).2,ixL_get hm]
 obtain⟨hr,hp⟩:=stsM_told (show RwInv _ _ [_] 0 [] from⟨rfl,Nat.zero_le _,fun i q hi=>absurd hi (by omega)⟩) hx
 have hnd:=stsM_nodup (show[_].Nodup by simp) hx
 have hrep:∀ j,j<n→bl.idxOf (bl.getD j 0)<n∧bl.getD (bl.idxOf (bl.getD j 0)) 0=bl.getD j 0:=fun j hj=>by
  have hm:bl.getD j 0∈bl:=by rw[getD_at (by rw[hbl];exact hj)];exact List.getElem_mem _
  have hi:ixL bl (bl.getD j 0)<bl.length:=ixL_lt hm
  refine⟨by rw[←hbl];exact hi,?_⟩
  have:=ixL_get hm
  rw[getD_at (i:=bl.idxOf (bl.getD j 0)) hi]
  exact this
 have hlead:∀ j r,j<n→r<k→leadM t bl (bl.getD j 0) r=bl.getD (nx t j r) 0:=fun j r hj hrk=>by
  obtain⟨q1,q2⟩:=hrep j hj
  exact(hst q1 hj q2).2 r hrk
 have hall:∀ j,j<n→bl.getD j 0∈x.1:=by
  intro j
  induction j using Nat.strongRecOn with
  |_ j ih=>
   intro hj
   rcases Nat.eq_zero_or_pos j with rfl|h0
   ·exact hp.subset (by simp)
   ·obtain⟨i,c,k1,k2,k3⟩:=h.rc j h0 hj
    have hi:=ih i k1 (by omega)
    obtain⟨c',hc',e⟩:=hO2 c k2
    obtain⟨a,ha,ea⟩:=List.mem_iff_getElem.1 hi
    have:=(hr.r a _ ha (List.getElem?_eq_getElem ha)).2 olds[c'] (List.getElem_mem _)
    rw[ea,hlead i _ (by omega) (hO1 c' hc').1,e i (by omega),k3] at this
    exact this
 have hlen1:n'=x.1.length:=by have:=hok'.al;rw[hL] at this;simpa using this.symm
 have hxl:x.2.length=x.1.length:=hr.l
 have hlen2:k'=olds.length:=by
  have h0:0<x.1.length:=by have:=hok'.n1;omega
  have e:=(hr.r 0 _ h0 (List.getElem?_eq_getElem h0)).1
  have:=hok'.row (i:=0) (by have:=hok'.n1;omega)
  rw[hL] at this
  simp only[List.getD_eq_getElem?_getD,e,Option.getD_some,List.length_map] at this
  exact this.symm
 have hhom:∀ j c',j<n→(hc:c'<olds.length)→nx (leastM t) (ixL x.1 (bl.getD j 0)) c'=ixL x.1 (bl.getD (nx t j olds[c']) 0):=fun j c' hj hc=>by
  have hm:=hall j hj
  have hi:=ixL_lt hm
  have e:=(hr.r _ _ hi (by rw[List.getElem?_eq_getElem hi,ixL_get hm])).1
  have e':x.2.getD (ixL x.1 (bl.getD j 0)) []=olds.map (fun r=>ixL x.1 (leadM t bl (bl.getD j 0) r)):=by rw[List.getD_eq_getElem?_getD,e,Option.getD_some]
  rw[hL,←hlead j _ hj (hO1 c' hc).1]
  show(x.2.getD (ixL x.1 (bl.getD j 0)) []).getD c' 0=_
  rw[e',getD_at (by simpa using hc)]
  simp
 have hacc:∀ j,j<n→ac (leastM t) (ixL x.1 (bl.getD j 0))=ac t j:=fun j hj=>by
  have hm:=hall j hj
  have hi:=ixL_lt hm
  obtain⟨q1,q2⟩:=hrep j hj
  rw[←(hst q1 hj q2).1,hL]
  unfold ac
  rw[getD_at (by simpa using hi)]
  simp only[List.getElem_map,ixL_get hm]
 have hsur:∀ a,a<n'→∃ j,j<n∧ixL x.1 (bl.getD j 0)=a:=fun a ha=>by
  have ha':a<x.1.length:=by omega
  have hP:∀ q∈x.1,∃ j,j<n∧bl.getD j 0=q:=stsM_all (fun q=>∃ j,j<n∧bl.getD j 0=q) (fun q r hq hr=>by
   obtain⟨j,hj,rfl⟩:=hq
   obtain⟨c,hc,rfl⟩:=List.mem_iff_getElem.1 hr
   have hk:=(hO1 c hc).1
   exact⟨nx t j olds[c],hok.nx_lt hj hk,(hlead j _ hj hk).symm⟩) (fun q hq=>by simp at hq;exact⟨0,by omega,by rw[hq];simp⟩) hx
  obtain⟨j,hj,e⟩:=hP _ (List.getElem_mem ha')
  exact⟨j,hj,by rw[e];exact ixL_at hnd ha'⟩
 refine⟨n',k',hn',hok',fun R hR a b hab=>?_,fun c d hc hd hcd=>?_⟩
 ·obtain⟨ha,hb',-⟩:=hR a b hab
  obtain⟨i,hi,rfl⟩:=hsur a ha
  obtain⟨j,hj,rfl⟩:=hsur b hb'
  have:bl.getD i 0=bl.getD j 0:=by
   refine hbis (fun i j=>i<n∧j<n∧R (ixL x.1 (bl.getD i 0)) (ixL x.1 (bl.getD j 0))) ?_ i j ⟨hi,hj,hab⟩
   rintro i j ⟨hi,hj,hij⟩
   obtain⟨-,-,e1,e2⟩:=hR _ _ hij
   rw[hacc i hi,hacc j hj] at e1
   refine⟨hi,hj,e1,fun c hc=>⟨hok.nx_lt hi hc,hok.nx_lt hj hc,?_⟩⟩
   obtain⟨c',hc',e⟩:=hO2 c hc
   have:=e2 c' (by rw[hlen2];exact hc')
   rwa [hhom i c' hi hc',hhom j c' hj hc',e i hi,e j hj] at this
  rw[this]
 ·have hc':c<olds.length:=by omega
  have hd':d<olds.length:=by omega
  refine Classical.byContradiction fun hne=>hcd ?_
  have hall2:∀ i,i<n'→nx (leastM t) i c=nx (leastM t) i d:=fun i hi=>Classical.byContradiction fun q=>hne ⟨i,hi,q⟩
  have:colM bl t.next olds[c]=colM bl t.next olds[d]:=(colM_at hok bl).2 (fun q hq=>by
   have e:=hall2 (ixL x.1 (bl.getD q 0)) (by rw[hlen1];exact ixL_lt (hall q hq))
   rw[hhom q c hq hc',hhom q d hq hd'] at e
   exact ixL_inj (hall _ (hok.nx_lt hq (hO1 c hc').1)) (hall _ (hok.nx_lt hq (hO1 d hd').1)) e)
  rw[(hO1 c hc').2,(hO1 d hd').2] at this
  exact(List.getElem_inj (metL_nodup List.nodup_nil cols)).1 this
open Sx (Prt Cnt)
theorem Sp.ext {n:Nat}{s t:W4} (h:Sp n s) (g:Sp n t) (e:∀ i,mem s i↔mem t i):s=t:=by
 have h0:s.x0=t.x0:=Nat.eq_of_testBit_eq (fun i=>by
  have:=e i
  unfold mem at this
  cases a:s.x0.testBit i<;>cases b:t.x0.testBit i<;>simp[a,b] at this ⊢)
 obtain⟨x0,x1,x2,x3⟩:=s
 obtain⟨y0,y1,y2,y3⟩:=t
 obtain⟨-,a1,a2,a3⟩:=h
 obtain⟨-,b1,b2,b3⟩:=g
 simp only at *
 subst_vars
 rfl
section
variable {α β γ δ ε:Type} [DecidableEq α] [DecidableEq β] [DecidableEq γ]
end
structure Tabular (P:Tb→Bool) (cc:List UInt8→Option Nat):Prop where
 f:∀ t,P t=true→∃ c,Fits t c∧1≤c∧cc t.cls=some c
theorem Tabular.fits {P:Tb→Bool}{cc:List UInt8→Option Nat} (h:Tabular P cc):∀ t,P t=true→∃ c,Fits t c:=fun t ht=>let ⟨c,hc,_⟩:=h.f t ht;⟨c,hc⟩
open Go.RowKit
structure BW (W:World) (g N:Nat) (B:Nat→UInt8):Prop where
 c:∀ j,j<N→W.cell? ⟨g,j,none⟩=some (.int .u8 (B j).toNat)
 f:∀ j,j<N→W.frozen? ⟨g,j,none⟩=false
theorem BW.set {W:World}{g N:Nat}{B B':Nat→UInt8} (h:BW W g N B) {k:Nat} (hk:k<N) {x:UInt8} (e:∀ j,j<N→B' j=if j=k then x else B j):BW (W.setCell ⟨g,k,none⟩ (.int .u8 x.toNat)) g N B':=by
 refine⟨fun j hj=>?_,fun o ho=>by simpa using h.f o ho⟩
 rw[e j hj]
 by_cases q:j=k
 ·subst q;rw[World.cell?_setCell_same _ _ _ (h.c j hj)];simp
 ·rw[World.cell?_setCell_other _ _ _ _ (by first|(simp;done)|(simp;omega)),h.c j hj];simp[q]
end Go.Proofs.YtbjabpodkaokjaaGreatDoor

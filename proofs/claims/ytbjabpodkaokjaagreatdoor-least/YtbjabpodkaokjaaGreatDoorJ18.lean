import Derived.Test.YtbjabpodkaokjaaGreatDoorJ13
import Derived.Test.YtbjabpodkaokjaaGreatDoorJ17
import Derived.Test.YtbjabpodkaokjaaGreatDoorJ15
import Derived.Lib.AppendStr
set_option linter.unusedVariables false
set_option linter.unusedSimpArgs false
set_option maxHeartbeats 4000000
set_option maxRecDepth 100000
namespace Go.Proofs.YtbjabpodkaokjaaGreatDoor.Sx
def hexD (n:Nat):UInt8:=[48,49,50,51,52,53,54,55,56,57,97,98,99,100,101,102].getD n 0
def tSpan (lo hi:Nat):List UInt8:=[hexD (lo / 16),hexD (lo%16)]++if lo<hi then[45,hexD (hi / 16),hexD (hi%16)] else[]
def spanE (S:Nat→Bool):Nat→Nat→Nat
 |0,h=>h
 |n+1,h=>if h<255∧S (h+1)=true then spanE S n (h+1) else h
def tLoop (S:Nat→Bool):Nat→Nat→Bool→List UInt8
 |0,_,_=>[]
 |n+1,low,blank=>if 256≤low then[] else if S low=true then
   (if blank then[32] else[])++tSpan low (spanE S 256 low)++tLoop S n (spanE S 256 low+1) true
  else tLoop S n (low+1) blank
def tBytes (S:Nat→Bool):List UInt8:=[60]++tLoop S 257 0 false++[62]
def tDec (n:Nat):List UInt8:=if n<10 then[UInt8.ofNat (48+n)] else[UInt8.ofNat (48+n / 10),UInt8.ofNat (48+n%10)]
def tCount (c:Cnt):List UInt8:=if c.sign=123 then[123]++tDec c.least.toNat++[44]++(if c.most=-1 then[] else tDec c.most.toNat)++[125] else[c.sign]
mutual
def tP:Prt→List UInt8
 |.mk g B cs=>(match g with|[]=>tBytes B|c::cs'=>tCs (c::cs'))++cs.flatMap tCount
def tPs:List Prt→List UInt8
 |[]=>[]
 |p::ps=>tP p++tPs ps
def tC:List Prt→List UInt8
 |[]=>[101]
 |[p]=>tP p
 |p::q::ps=>[40]++tP p++tP q++tPs ps++[41]
def tCs:List (List Prt)→List UInt8
 |[]=>[]
 |[c]=>tC c
 |c::d::cs=>[40]++tC c++[124]++tC d++tBar cs++[41]
def tBar:List (List Prt)→List UInt8
 |[]=>[]
 |c::cs=>[124]++tC c++tBar cs
end
def tPtn (p:Ptn):List UInt8:=(if p.front then[94] else[])++tCs p.choices++(if p.back then[36] else[])
open Go.RowKit
abbrev bv (c:UInt8):Value:=.int .u8 c.toNat
abbrev Buf (w:World) (base:Nat) (v:Value) (bs:List UInt8):Prop:=w.ownsRow base 5 1 v bs.length (bs.map bv)
theorem Tryz.infoU8:(Tryz.prog.info? 5).map (fun i=>(i.zero,i.size,i.bytes))=some (some (.int .u8 0),1,1):=by kernel_rfl
theorem bv_one (l:List UInt8):∀ u∈l.map bv,u.oneCell'=true:=by
 intro u hu
 obtain⟨c,_,rfl⟩:=List.mem_map.1 hu
 rfl
structure Keeps (w w':World):Prop where
 size:w.heap.size≤w'.heap.size
 block:∀ g,g<w.heap.size→(∀ cur,w.heap[g]?≠some (.cells cur 5 (0,0)))→w'.heap[g]?=w.heap[g]?
theorem Keeps.refl (w:World):Keeps w w:=⟨Nat.le_refl _,fun _ _ _=>rfl⟩
theorem Keeps.trans {x y z:World} (h:Keeps x y) (k:Keeps y z):Keeps x z:=
 ⟨Nat.le_trans h.size k.size,fun g hg hn=>by
  have e:=h.block g hg hn
  exact(k.block g (Nat.lt_of_lt_of_le hg h.size) (fun cur=>by rw[e];exact hn cur)).trans e⟩
theorem Keeps.alloc {x w:World} (h:Keeps x w) (o:Obj):Keeps x (w.alloc o):=h.trans ⟨by simp,fun g hg _=>Below.heap_alloc _ _ _ hg⟩
theorem Keeps.grown {x w w':World}{base:Nat}{v:Value}{bs:List UInt8} (h:Keeps x w) (hB:Buf w base v bs) (hg:w.grownBy w' v.ownBlock):Keeps x w':=by
 refine h.trans ⟨hg.size,fun g hlt hn=>hg.block g hlt (fun e=>?_)⟩
 obtain⟨_,hr⟩:=hB
 rcases hr with⟨rfl,_⟩|⟨k,cap,cur,rfl,_,hh,_⟩
 ·simp[Value.ownBlock] at e
 ·simp only[Value.ownBlock,Option.some.injEq] at e
  subst e
  exact hn cur hh
structure Out (base:Nat) (w w':World) (v:Value) (bs:List UInt8):Prop where
 buf:Buf w' base v bs
 bl:Below base w w'
 kp:Keeps w w'
theorem Out.trans {base:Nat}{x y z:World}{v v':Value}{bs bs':List UInt8} (h:Out base x y v bs) (k:Out base y z v' bs'):Out base x z v' bs':=⟨k.buf,h.bl.trans k.bl,h.kp.trans k.kp⟩
theorem Out.start {base:Nat}{w:World}{v:Value}{bs:List UInt8} (h:Buf w base v bs):Out base w w v bs:=⟨h,Below.refl _ _,Keeps.refl _⟩
theorem Out.alloc {base:Nat}{x w:World}{v:Value}{bs:List UInt8} (h:Out base x w v bs) (hb:base≤w.heap.size) (o:Obj):Out base x (w.alloc o) v bs:=⟨h.buf.alloc _,h.bl.alloc hb _,h.kp.alloc _⟩
theorem Out.grown {base:Nat}{x w w':World}{v v':Value}{bs bs':List UInt8} (h:Out base x w v bs) (hb:base≤w.heap.size) (hg:w.grownBy w' v.ownBlock) (hB:Buf w' base v' bs'):Out base x w' v' bs':=
 ⟨hB,h.bl.grown hg hb (fun k hk=>(h.buf.lt k hk).1),h.kp.grown h.buf hg⟩
theorem tDec_len (i:Nat):(tDec i).length≤2:=by unfold tDec;split<;>simp
end Go.Proofs.YtbjabpodkaokjaaGreatDoor.Sx

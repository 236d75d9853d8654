import Derived.KernelRfl
import Derived.Test.YtbjabpodkaokjaaGreatDoorJ12
import Derived.Deep.Light
import Derived.Deep.QuietTactic
import Derived.BigQuiet
import Derived.BigRegion
import Derived.Deep.RegionWith
set_option linter.unusedVariables false
set_option linter.unusedSimpArgs false
set_option maxHeartbeats 4000000
set_option maxRecDepth 100000
namespace Go.Proofs.YtbjabpodkaokjaaGreatDoor.Sx
inductive Res (α:Type) where
 |ok (a:α) (r:List UInt8)
 |bad (r:List UInt8)
def Res.rest {α:Type}:Res α→List UInt8
 |.ok _ r=>r
 |.bad r=>r
structure Cnt where
 sign:UInt8
 least:Int
 most:Int
deriving DecidableEq,Inhabited
inductive Prt where
 |mk (group:List (List Prt)) (S:Nat→Bool) (counts:List Cnt)
abbrev signsU:List UInt8:=[92,46,91,93,40,41,123,125,124,42,43,63,94,36]
def isSg (c:UInt8):Bool:=signsU.contains c
def hexN (c:UInt8):Option Nat:=
 if 48≤c.toNat∧c.toNat≤57 then some (c.toNat-48) else if 97≤c.toNat∧c.toNat≤102 then some (c.toNat-87) else none
def pHexSign (least:Nat):List UInt8→Res Nat
 |[]=>.bad []
 |c::t=>match hexN c with
  |some v=>if v<least then .bad (c::t) else .ok v t
  |none=>.bad (c::t)
def pHexByte (least:Nat) (r:List UInt8):Res Nat:=
 match pHexSign (least / 16) r with
 |.bad r'=>.bad r'
 |.ok high r'=>match pHexSign ((if least / 16<high then 0 else least)%16) r' with
  |.bad r''=>.bad r''
  |.ok low r''=>.ok (high*16+low) r''
def escByte (c:UInt8):Option Nat:=
 if isSg c||c==45 then some c.toNat else if c==110 then some 10 else if c==116 then some 9 else none
def pByteEscape (least:Nat):List UInt8→Res Nat
 |[]=>.bad []
 |c::t=>if c=120 then pHexByte least t else
  match escByte c with
  |some v=>if v<least then .bad (c::t) else .ok v t
  |none=>.bad (c::t)
def inSpan (lo hi:Nat) (n:Nat):Bool:=decide (lo≤n)&&decide (n≤hi)
def escSet (c:UInt8):Option (Nat→Bool):=
 if c=100 then some (inSpan 48 57)
 else if c=119 then some (fun n=>inSpan 48 57 n||inSpan 65 90 n||inSpan 95 95 n||inSpan 97 122 n)
 else if c=115 then some (fun n=>inSpan 9 10 n||inSpan 13 13 n||inSpan 32 32 n)
 else none
def pEscape:List UInt8→Res (Nat→Bool)
 |[]=>.bad []
 |c::t=>match escSet c with
  |some S=>.ok S t
  |none=>match pByteEscape 0 (c::t) with
   |.ok v r=>.ok (inSpan v v) r
   |.bad r=>.bad r
def pPlainItem (least:Nat):List UInt8→Res Nat
 |[]=>.bad []
 |c::t=>if c.toNat<least then .bad (c::t) else if c=92∨c=91∨c=93∨c=94∨c=45 then .bad (c::t) else .ok c.toNat t
def pItemByte (least:Nat):List UInt8→Res Nat
 |92::t=>pByteEscape least t
 |r=>pPlainItem least r
def pRange (low:Nat):List UInt8→Res (Nat→Bool)
 |45::t=>match pItemByte low t with
  |.ok high r=>.ok (inSpan low high) r
  |.bad r=>.bad r
 |r=>.ok (inSpan low low) r
def pItem:List UInt8→Res (Nat→Bool)
 |92::c::t=>match escSet c with
  |some S=>.ok S t
  |none=>match pByteEscape 0 (c::t) with
   |.ok low r=>pRange low r
   |.bad r=>.bad r
 |r=>match pItemByte 0 r with
  |.ok low r'=>pRange low r'
  |.bad r'=>.bad r'
def orS (A B:Nat→Bool) (n:Nat):Bool:=A n||B n
def pItems:Nat→(Nat→Bool)→List UInt8→Res (Nat→Bool)
 |0,_,r=>.bad r
 |n+1,A,r=>match pItem r with
  |.bad r'=>.bad r'
  |.ok S r'=>match r' with
   |93::t=>.ok (orS A S) t
   |_=>pItems n (orS A S) r'
def pClass (r:List UInt8):Res (Nat→Bool):=
 match r with
 |94::t=>match pItems (t.length+1) (fun _=>false) t with
  |.ok S r'=>.ok (fun n=>!S n) r'
  |.bad r'=>.bad r'
 |_=>pItems (r.length+1) (fun _=>false) r
def beginsNum (value least:Int):Bool:=
 if 30<value then false else if least≤value then true else if value=0 then false else
 if 30<value*10 then false else if least≤value*10+9 then true else false
def pDigits (least:Int):Int→Bool→List UInt8→Res Int
 |value,begun,c::t=>
  if 48≤c.toNat∧c.toNat≤57∧¬(begun=true∧value=0)∧beginsNum (value*10+(c.toNat-48)) least=true then pDigits least (value*10+(c.toNat-48)) true t
  else if begun=true∧least≤value then .ok value (c::t) else .bad (c::t)
 |value,begun,[]=>if begun=true∧least≤value then .ok value [] else .bad []
def pBounds (r:List UInt8):Res (Int×Int):=
 match pDigits 0 0 false r with
 |.bad r'=>.bad r'
 |.ok least r'=>match r' with
  |44::125::t=>.ok (least,-1) t
  |44::t=>match pDigits least 0 false t with
   |.bad r''=>.bad r''
   |.ok most r''=>match r'' with
    |125::t'=>.ok (least,most) t'
    |_=>.bad r''
  |125::t=>.ok (least,least) t
  |_=>.bad r'
def pCounts:Nat→List UInt8→Res (List Cnt)
 |0,r=>.bad r
 |n+1,r=>match r with
  |c::t=>
   if c=42∨c=43∨c=63 then
    match pCounts n t with
    |.ok cs r'=>.ok (⟨c,0,0⟩::cs) r'
    |.bad r'=>.bad r'
   else if c=123 then
    match pBounds t with
    |.bad r'=>.bad r'
    |.ok (a,b) r'=>match pCounts n r' with
     |.ok cs r''=>.ok (⟨c,a,b⟩::cs) r''
     |.bad r''=>.bad r''
   else .ok [] r
  |[]=>.ok [] []
def begins:List UInt8→Bool
 |[]=>false
 |c::_=>c==46||c==92||c==91||c==40||!isSg c
mutual
def pChoices:Nat→List UInt8→Res (List (List Prt))
 |0,r=>.bad r
 |n+1,r=>match pChain n r with
  |.bad r'=>.bad r'
  |.ok c r'=>match r' with
   |124::t=>match pChoices n t with
    |.ok cs r''=>.ok (c::cs) r''
    |.bad r''=>.bad r''
   |_=>.ok [c] r'
def pChain:Nat→List UInt8→Res (List Prt)
 |0,r=>.bad r
 |n+1,r=>if begins r then
   match pPart n r with
   |.bad r'=>.bad r'
   |.ok p r'=>match pChain n r' with
    |.ok ps r''=>.ok (p::ps) r''
    |.bad r''=>.bad r''
  else .ok [] r
def pPart:Nat→List UInt8→Res Prt
 |0,r=>.bad r
 |n+1,r=>match pAtom n r with
  |.bad r'=>.bad r'
  |.ok (g,S) r'=>match pCounts (r'.length+1) r' with
   |.ok cs r''=>.ok (.mk g S cs) r''
   |.bad r''=>.bad r''
def pAtom:Nat→List UInt8→Res (List (List Prt)×(Nat→Bool))
 |0,r=>.bad r
 |n+1,r=>match r with
  |[]=>.bad []
  |c::t=>
   if c=40 then
    match pChoices n t with
    |.bad r'=>.bad r'
    |.ok cs r'=>match r' with
     |41::t'=>.ok (cs,fun _=>false) t'
     |_=>.bad r'
   else if c=91 then
    match pClass t with
    |.ok S r'=>.ok ([],S) r'
    |.bad r'=>.bad r'
   else if c=92 then
    match pEscape t with
    |.ok S r'=>.ok ([],S) r'
    |.bad r'=>.bad r'
   else if c=46 then .ok ([],fun n=>!inSpan 10 10 n) t
   else .ok ([],inSpan c.toNat c.toNat) t
end
mutual
def nestP:Prt→Nat
 |.mk g _ _=>match g with
  |[]=>0
  |c::cs=>1+max (nestC c) (nestCs cs)
def nestC:List Prt→Nat
 |[]=>0
 |p::ps=>max (nestP p) (nestC ps)
def nestCs:List (List Prt)→Nat
 |[]=>0
 |c::cs=>max (nestC c) (nestCs cs)
end
structure Ptn where
 front:Bool
 back:Bool
 choices:List (List Prt)
open Go.RowKit
structure RdAt (w:World) (b:Nat) (s:ByteArray) (k:Nat) (d e:Int):Prop where
 c0:w.cell? ⟨b,0,none⟩=some (.string s)
 c1:w.cell? ⟨b,1,none⟩=some (.int .i64 k)
 c2:w.cell? ⟨b,2,none⟩=some (.int .i64 d)
 c3:w.cell? ⟨b,3,none⟩=some (.int .i64 e)
 fz:∀ o,w.frozen? ⟨b,o,none⟩=false
 lt:b<w.heap.size
structure Rd (b:Nat) (w w':World):Prop where
 os:w'.os=w.os
 tape:w'.tape=w.tape
 output:w'.output=w.output
 size:w.heap.size≤w'.heap.size
 block:∀ k,k<w.heap.size→k≠b→w'.heap[k]?=w.heap[k]?
theorem Rd.refl (b:Nat) (w:World):Rd b w w:=⟨rfl,rfl,rfl,Nat.le_refl _,fun _ _ _=>rfl⟩
theorem Rd.trans {b:Nat}{x y z:World} (h:Rd b x y) (g:Rd b y z):Rd b x z:=
 ⟨g.os.trans h.os,g.tape.trans h.tape,g.output.trans h.output,Nat.le_trans h.size g.size,fun k hk hb=>(g.block k (Nat.lt_of_lt_of_le hk h.size) hb).trans (h.block k hk hb)⟩
theorem Rd.of_below {b:Nat}{w w':World} (h:Below w.heap.size w w'):Rd b w w':=⟨h.os,h.tape,h.output,h.size,fun k hk _=>h.block k hk⟩
theorem Rd.drewN {b:Nat}{x w:World} (h:Rd b x w) (n:Nat):Rd b x (w.drewN n):=⟨h.os,h.tape,h.output,h.size,h.block⟩
theorem Rd.drew {b:Nat}{x w:World} (h:Rd b x w):Rd b x w.drew:=⟨h.os,h.tape,h.output,h.size,h.block⟩
theorem Rd.setCell {b:Nat}{x w:World} (h:Rd b x w) (o:Nat) (v:Value):Rd b x (w.setCell ⟨b,o,none⟩ v):=
 h.trans ⟨rfl,rfl,rfl,by simp[World.setCell],fun k _ hb=>Below.heap_setCell _ _ _ _ hb⟩
theorem Rd.alloc {b:Nat}{x w:World} (h:Rd b x w) (o:Obj):Rd b x (w.alloc o):=
 h.trans ⟨rfl,rfl,rfl,by simp,fun k hk _=>Below.heap_alloc _ _ _ hk⟩
theorem RdAt.drewN {w:World}{b:Nat}{s:ByteArray}{k:Nat}{d e:Int} (h:RdAt w b s k d e) (n:Nat):RdAt (w.drewN n) b s k d e:=⟨h.c0,h.c1,h.c2,h.c3,h.fz,h.lt⟩
theorem RdAt.step {w:World}{b:Nat}{s:ByteArray}{k:Nat}{d e:Int} (h:RdAt w b s k d e) (j:Nat):RdAt (w.setCell ⟨b,1,none⟩ (.int .i64 j)) b s j d e:=by
 obtain⟨c0,c1,c2,c3,fz,lt⟩:=h
 constructor<;>(try intro o)<;>simp[c0,c1,c2,c3,fz,lt,go_sem]
abbrev RdTo (w w':World) (b:Nat) (s:ByteArray) (k:Nat) (d e:Int):Prop:=RdAt w' b s k d e∧Rd b w w'
theorem RdTo.trans {w x y:World}{b:Nat}{s:ByteArray}{k k':Nat}{d d' e e':Int} (h:RdTo w x b s k d e) (g:RdTo x y b s k' d' e'):RdTo w y b s k' d' e':=⟨g.1,h.2.trans g.2⟩
theorem peek_some (w:World) (b:Nat) (s:ByteArray) (k:Nat) (d x:Int) (h:RdAt w b s k d x) (hs:s.size≤200) (hk:k<s.size) :
  Calls Tryz.prog 172 #[.pointer (some ⟨b,0,none⟩)] w fun e w'=>e=.returned (.tuple #[.int .u8 s[k].toNat,.bool true])∧RdTo w w' b s k d x:=by
 have h':=h
 obtain⟨c0,c1,c2,c3,fz,lt⟩:=h
 have hne:((k:Int)==s.size)=false:=by simp;omega
 go_enter Tryz.func172,Tryz.ntmps172
 go_wp2
 go_quiet (fail)
 go_wp2
 go_quiet (fail)
 go_wp2
 go_ret2
 exact⟨rfl,(h'.drewN _).drewN _,((Rd.refl _ _).drewN _).drewN _⟩
theorem peek_none (w:World) (b:Nat) (s:ByteArray) (k:Nat) (d x:Int) (h:RdAt w b s k d x) (hs:s.size≤200) (hk:k=s.size) :
  Calls Tryz.prog 172 #[.pointer (some ⟨b,0,none⟩)] w fun e w'=>e=.returned (.tuple #[.int .u8 0,.bool false])∧RdTo w w' b s k d x:=by
 have h':=h
 subst hk
 obtain⟨c0,c1,c2,c3,fz,lt⟩:=h
 go_enter Tryz.func172,Tryz.ntmps172
 go_wp2
 go_quiet (fail)
 go_wp2
 go_ret2
 exact⟨rfl,h'.drewN _,(Rd.refl _ _).drewN _⟩
theorem take_yes (w:World) (b:Nat) (s:ByteArray) (k:Nat) (d x c:Int) (h:RdAt w b s k d x) (hs:s.size≤200) (hk:k<s.size) (hc:(s[k].toNat:Int)=c) :
  Calls Tryz.prog 121 #[.pointer (some ⟨b,0,none⟩),.int .u8 c] w fun e w'=>e=.returned (.bool true)∧RdTo w w' b s (k+1) d x:=by
 have hc':((s[k].toNat:Int) != c)=false:=by simpa using hc
 have HC:Hid ((s[k].toNat:Int)=c):=hc
 clear hc
 have hp:=fun w h=>peek_some w b s k d x h hs hk
 go_enter Tryz.func121,Tryz.ntmps121
 go_wp2_with (go_at_call 172;refine(hp _ h).mono ?_;rintro e w1 ⟨rfl,h1,hr1⟩;have h1':=h1;obtain⟨c0,c1,c2,c3,fz,lt⟩:=h1)
 go_ret
 exact⟨rfl,h1'.step (k+1),hr1.setCell _ _⟩
theorem take_no (w:World) (b:Nat) (s:ByteArray) (k:Nat) (d x c:Int) (h:RdAt w b s k d x) (hs:s.size≤200) (hk:k<s.size) (hc:(s[k].toNat:Int)≠c) :
  Calls Tryz.prog 121 #[.pointer (some ⟨b,0,none⟩),.int .u8 c] w fun e w'=>e=.returned (.bool false)∧RdTo w w' b s k d x:=by
 have hc':((s[k].toNat:Int) != c)=true:=by simpa using hc
 have hp:=fun w h=>peek_some w b s k d x h hs hk
 go_enter Tryz.func121,Tryz.ntmps121
 go_wp2_with (go_at_call 172;refine(hp _ h).mono ?_;rintro e w1 ⟨rfl,h1,hr1⟩)
 go_ret
 exact⟨rfl,h1,hr1⟩
theorem take_end (w:World) (b:Nat) (s:ByteArray) (k:Nat) (d x c:Int) (h:RdAt w b s k d x) (hs:s.size≤200) (hk:k=s.size) :
  Calls Tryz.prog 121 #[.pointer (some ⟨b,0,none⟩),.int .u8 c] w fun e w'=>e=.returned (.bool false)∧RdTo w w' b s k d x:=by
 have hp:=fun w h=>peek_none w b s k d x h hs hk
 go_enter Tryz.func121,Tryz.ntmps121
 go_wp2_with (go_at_call 172;refine(hp _ h).mono ?_;rintro e w1 ⟨rfl,h1,hr1⟩)
 go_ret
 exact⟨rfl,h1,hr1⟩
def SG:Array Value:=#[.int .u8 92,.int .u8 46,.int .u8 91,.int .u8 93,.int .u8 40,.int .u8 41,.int .u8 123,.int .u8 125,.int .u8 124,.int .u8 42,.int .u8 43,.int .u8 63,.int .u8 94,.int .u8 36]
def SE:Array Value:=#[.int .u8 100,.int .u8 48,.int .u8 57,.int .u8 119,.int .u8 48,.int .u8 57,.int .u8 119,.int .u8 65,.int .u8 90,.int .u8 119,.int .u8 95,.int .u8 95,.int .u8 119,.int .u8 97,.int .u8 122,.int .u8 115,.int .u8 9,.int .u8 10,.int .u8 115,.int .u8 13,.int .u8 13,.int .u8 115,.int .u8 32,.int .u8 32]
def BE:Array Value:=#[.int .u8 110,.int .u8 10,.int .u8 116,.int .u8 9]
structure Tabs (w:World):Prop where
 g0:∃ t fr,w.heap[2]?=some (.cells SG t fr)
 g1:∃ t fr,w.heap[3]?=some (.cells SE t fr)
 g2:∃ t fr,w.heap[4]?=some (.cells BE t fr)
theorem Tabs.lt {w:World} (h:Tabs w):4<w.heap.size:=by
 obtain⟨t,fr,h2⟩:=h.g2
 rcases Nat.lt_or_ge 4 w.heap.size with h|h
 ·exact h
 ·simp[Array.getElem?_eq_none h] at h2
theorem Tabs.of_block {w w':World} (h:Tabs w) (hb:∀ k,k<5→w'.heap[k]?=w.heap[k]?):Tabs w':=by
 obtain⟨⟨t0,f0,h0⟩,⟨t1,f1,h1⟩,⟨t2,f2,h2⟩⟩:=h
 exact⟨⟨t0,f0,(hb 2 (by omega)).trans h0⟩,⟨t1,f1,(hb 3 (by omega)).trans h1⟩,⟨t2,f2,(hb 4 (by omega)).trans h2⟩⟩
theorem sg_index0 (w:World):(Instr.index 340 (.agg SG) (.int .i64 0)).run Tryz.prog w=.ok (.int .u8 92) w:=by kernel_rfl
theorem sg_index1 (w:World):(Instr.index 340 (.agg SG) (.int .i64 1)).run Tryz.prog w=.ok (.int .u8 46) w:=by kernel_rfl
theorem sg_index2 (w:World):(Instr.index 340 (.agg SG) (.int .i64 2)).run Tryz.prog w=.ok (.int .u8 91) w:=by kernel_rfl
theorem sg_index3 (w:World):(Instr.index 340 (.agg SG) (.int .i64 3)).run Tryz.prog w=.ok (.int .u8 93) w:=by kernel_rfl
theorem sg_index4 (w:World):(Instr.index 340 (.agg SG) (.int .i64 4)).run Tryz.prog w=.ok (.int .u8 40) w:=by kernel_rfl
theorem sg_index5 (w:World):(Instr.index 340 (.agg SG) (.int .i64 5)).run Tryz.prog w=.ok (.int .u8 41) w:=by kernel_rfl
theorem sg_index6 (w:World):(Instr.index 340 (.agg SG) (.int .i64 6)).run Tryz.prog w=.ok (.int .u8 123) w:=by kernel_rfl
theorem sg_index7 (w:World):(Instr.index 340 (.agg SG) (.int .i64 7)).run Tryz.prog w=.ok (.int .u8 125) w:=by kernel_rfl
theorem sg_index8 (w:World):(Instr.index 340 (.agg SG) (.int .i64 8)).run Tryz.prog w=.ok (.int .u8 124) w:=by kernel_rfl
theorem sg_index9 (w:World):(Instr.index 340 (.agg SG) (.int .i64 9)).run Tryz.prog w=.ok (.int .u8 42) w:=by kernel_rfl
theorem sg_index10 (w:World):(Instr.index 340 (.agg SG) (.int .i64 10)).run Tryz.prog w=.ok (.int .u8 43) w:=by kernel_rfl
theorem sg_index11 (w:World):(Instr.index 340 (.agg SG) (.int .i64 11)).run Tryz.prog w=.ok (.int .u8 63) w:=by kernel_rfl
theorem sg_index12 (w:World):(Instr.index 340 (.agg SG) (.int .i64 12)).run Tryz.prog w=.ok (.int .u8 94) w:=by kernel_rfl
theorem sg_index13 (w:World):(Instr.index 340 (.agg SG) (.int .i64 13)).run Tryz.prog w=.ok (.int .u8 36) w:=by kernel_rfl
theorem sg_index (k:Nat) (h:k<14) (w:World):(Instr.index 340 (.agg SG) (.int .i64 k)).run Tryz.prog w=.ok (.int .u8 (signs14.getD k 0)) w:=by
 match k,h with
 |0,_=>exact sg_index0 w
 |1,_=>exact sg_index1 w
 |2,_=>exact sg_index2 w
 |3,_=>exact sg_index3 w
 |4,_=>exact sg_index4 w
 |5,_=>exact sg_index5 w
 |6,_=>exact sg_index6 w
 |7,_=>exact sg_index7 w
 |8,_=>exact sg_index8 w
 |9,_=>exact sg_index9 w
 |10,_=>exact sg_index10 w
 |11,_=>exact sg_index11 w
 |12,_=>exact sg_index12 w
 |13,_=>exact sg_index13 w
 |n+14,h=>exact absurd h (by omega)
theorem isSign_any (c:Int) (w:World) (hT:Tabs w) (h0:0≤c) (h1:c≤255) :
  Calls Tryz.prog 207 #[.int .u8 c] w fun e w'=>e=.returned (.bool (isSignB c))∧w'=w:=by
 obtain⟨⟨tt,fr,hg⟩,-,-⟩:=hT
 go_enter Tryz.func207,Tryz.ntmps207
 go_wp2_with (refine wpList_load_row rfl 340 _ rfl 2 rfl tt _ fr _ hg Tryz.underlying340 rfl (by kernel_rfl) ?_)
 go_loop [6] (fun i=>∃ k:Nat,k≤14∧i=.int .i64 k∧∀ j,j<k→signs14.getD j 0≠c) (fun i=>14-(intOf i).toNat)
 case atStart=>exact⟨0,Nat.zero_le _,rfl,fun j hj=>absurd hj (Nat.not_lt_zero _)⟩
 case round=>
  obtain⟨k,hk,rfl,hno⟩:=hrel
  have HNO:Hid (∀ j,j<k→signs14.getD j 0≠c):=hno
  clear hno
  by_cases hlt:k<14
  ·have hix:=sg_index k hlt
   obtain⟨z,hz⟩:∃ z,z=signs14.getD k 0:=⟨_,rfl⟩
   rw[←hz] at hix
   have HZ:Hid (z=signs14.getD k 0):=hz
   clear hz
   by_cases hzc:z=c
   ·have hzc':(z==c)=true:=by simpa using hzc
    have HZC:Hid (z=c):=hzc
    clear hzc
    go_wp2
    go_ret
    exact⟨ret_bool (isSign_of_at k hlt c (by rw[←HZ.out];exact HZC.out)).symm,rfl⟩
   ·have hzc':(z==c)=false:=by simpa using hzc
    go_wp2
    go_round
    case rel=>
     refine⟨k+1,by omega,by go_num,fun j hj=>?_⟩
     by_cases e:j=k
     ·subst e;rw[←HZ.out];exact hzc
     ·exact HNO.out j (by omega)
    case measure=>simp[intOf];omega
  ·go_wp2
   go_ret
   exact⟨ret_bool (isSign_none c (fun j hj=>HNO.out j (by omega))).symm,rfl⟩
theorem be_index0 (w:World):(Instr.index 364 (.agg BE) (.int .i64 0)).run Tryz.prog w=.ok (.agg #[.int .u8 110,.int .u8 10]) w:=by kernel_rfl
theorem be_index1 (w:World):(Instr.index 364 (.agg BE) (.int .i64 1)).run Tryz.prog w=.ok (.agg #[.int .u8 116,.int .u8 9]) w:=by kernel_rfl
def escB (c:Int):Option Int:=if isSignB c||c==45 then some c else if c==110 then some 10 else if c==116 then some 9 else none
theorem escapedByte_any (c:Int) (w:World) (hT:Tabs w) (h0:0≤c) (h1:c≤255) :
  Calls Tryz.prog 238 #[.int .u8 c] w fun e w'=>e=.returned (.tuple #[.int .u8 ((escB c).getD 0),.bool (escB c).isSome])∧Below w.heap.size w w':=by
 have hsg:=fun w h=>isSign_any c w h h0 h1
 obtain⟨v,hv⟩:∃ v,v=isSignB c:=⟨_,rfl⟩
 rw[←hv] at hsg
 have hT':=hT
 obtain⟨-,-,⟨tt,fr,hg⟩⟩:=hT
 have b0:=be_index0
 have b1:=be_index1
 by_cases hs:v||c==45
 ·have e:escB c=some c:=by simp only[escB,←hv,hs,if_true]
  have HE:Hid (escB c=some c):=e
  clear e hv
  cases v
  ·have h45:(c==45)=true:=by simpa using hs
   go_enter Tryz.func238,Tryz.ntmps238
   go_wp2_with (go_at_call 207;refine(hsg _ hT').mono ?_;rintro e w' ⟨rfl,hw⟩;obtain rfl:=hw.symm)
   go_ret2
   rw[HE.out]
   exact⟨rfl,Below.refl _ _⟩
  ·go_enter Tryz.func238,Tryz.ntmps238
   go_wp2_with (go_at_call 207;refine(hsg _ hT').mono ?_;rintro e w' ⟨rfl,hw⟩;obtain rfl:=hw.symm)
   go_ret2
   rw[HE.out]
   exact⟨rfl,Below.refl _ _⟩
 ·have hv':v=false:=by cases v<;>simp at hs ⊢
  subst hv'
  have h45:(c==45)=false:=by simpa using hs
  clear hs
  have HE:Hid (escB c=if c==110 then some 10 else if c==116 then some 9 else none):=by
   show escB c=_
   simp only[escB,←hv,h45];simp
  clear hv
  go_enter Tryz.func238,Tryz.ntmps238
  go_wp2_with (first|(go_at_call 207;refine(hsg _ hT').mono ?_;rintro e w' ⟨rfl,hw⟩;obtain rfl:=hw.symm)|refine wpList_load_row rfl 364 _ rfl 4 rfl tt _ fr _ hg Tryz.underlying364 rfl (by kernel_rfl) ?_)
  go_loopw [14] (fun i wr=>∃ k:Nat,k≤2∧i=.int .i64 k∧(0<k→c≠110)∧(1<k→c≠116)∧Below w.heap.size w wr) (fun i _=>2-(intOf i).toNat)
  case atStart=>exact⟨0,Nat.zero_le _,rfl,fun h=>absurd h (by omega),fun h=>absurd h (by omega),Below.refl _ _⟩
  case round=>
   obtain⟨k,hk,rfl,ha,hb,hbl⟩:=hrel
   have hwr:w.heap.size≤wr.heap.size:=hbl.size
   match k,hk with
   |0,_=>
    by_cases h110:c=110
    ·subst h110
     go_wp2
     go_ret2
     rw[HE.out]
     exact⟨rfl,hbl.alloc hwr _⟩
    ·have h':((110:Int)==c)=false:=by simpa using fun e=>h110 e.symm
     go_wp2
     go_roundw
     case rel=>exact⟨1,by omega,by go_num,fun _=>h110,fun h=>absurd h (by omega),hbl.alloc hwr _⟩
     case measure=>simp[intOf]
   |1,_=>
    have h110:=ha (by omega)
    by_cases h116:c=116
    ·subst h116
     go_wp2
     go_ret2
     rw[HE.out]
     exact⟨rfl,hbl.alloc hwr _⟩
    ·have h':((116:Int)==c)=false:=by simpa using fun e=>h116 e.symm
     go_wp2
     go_roundw
     case rel=>exact⟨2,by omega,by go_num,fun _=>h110,fun _=>h116,hbl.alloc hwr _⟩
     case measure=>simp[intOf]
   |2,_=>
    have h110:=ha (by omega)
    have h116:=hb (by omega)
    go_wp2
    go_ret2
    rw[HE.out]
    exact⟨by simp[h110,h116],hbl⟩
structure Wd (x0 x1 x2 x3:Nat) (S:Nat→Bool):Prop where
 l0:x0<18446744073709551616
 l1:x1<18446744073709551616
 l2:x2<18446744073709551616
 l3:x3<18446744073709551616
 b0:∀ n,n<64→x0.testBit n=S n
 b1:∀ n,n<64→x1.testBit n=S (64+n)
 b2:∀ n,n<64→x2.testBit n=S (128+n)
 b3:∀ n,n<64→x3.testBit n=S (192+n)
structure SetAt (w:World) (b off:Nat) (S:Nat→Bool) (x0 x1 x2 x3:Nat):Prop where
 wd:Wd x0 x1 x2 x3 S
 c0:w.cell? ⟨b,off,none⟩=some (.int .u64 x0)
 c1:w.cell? ⟨b,off+1,none⟩=some (.int .u64 x1)
 c2:w.cell? ⟨b,off+2,none⟩=some (.int .u64 x2)
 c3:w.cell? ⟨b,off+3,none⟩=some (.int .u64 x3)
 fz:∀ o,w.frozen? ⟨b,o,none⟩=false
structure Four (b off:Nat) (w w':World):Prop where
 os:w'.os=w.os
 tape:w'.tape=w.tape
 output:w'.output=w.output
 size:w.heap.size≤w'.heap.size
 block:∀ k,k<w.heap.size→k≠b→w'.heap[k]?=w.heap[k]?
 cell:∀ o,(o<off∨off+4≤o)→w'.cell? ⟨b,o,none⟩=w.cell? ⟨b,o,none⟩
theorem Four.refl (b off:Nat) (w:World):Four b off w w:=⟨rfl,rfl,rfl,Nat.le_refl _,fun _ _ _=>rfl,fun _ _=>rfl⟩
theorem Four.trans {b off:Nat}{x y z:World} (h:Four b off x y) (g:Four b off y z):Four b off x z:=
 ⟨g.os.trans h.os,g.tape.trans h.tape,g.output.trans h.output,Nat.le_trans h.size g.size,fun k hk hb=>(g.block k (Nat.lt_of_lt_of_le hk h.size) hb).trans (h.block k hk hb),fun o ho=>(g.cell o ho).trans (h.cell o ho)⟩
theorem Four.drew {b off:Nat}{x w:World} (h:Four b off x w):Four b off x w.drew:=⟨h.os,h.tape,h.output,h.size,h.block,h.cell⟩
theorem Four.setCell {b off:Nat}{x w:World} (h:Four b off x w) (o:Nat) (ho:off≤o∧o<off+4) (v:Value):Four b off x (w.setCell ⟨b,o,none⟩ v):=
 h.trans ⟨rfl,rfl,rfl,by simp[World.setCell],fun k _ hb=>Below.heap_setCell _ _ _ _ hb,fun o' ho'=>by
  have:o≠o':=by omega
  exact World.cell?_setCell_other _ _ _ _ (fun e=>this (by injection e))⟩
theorem Four.alloc {b off:Nat}{x w:World} (h:Four b off x w) (hb:b<w.heap.size) (o:Obj):Four b off x (w.alloc o):=
 h.trans ⟨rfl,rfl,rfl,by simp,fun k hk _=>Below.heap_alloc _ _ _ hk,fun o' _=>by simp[World.cell?,Below.heap_alloc _ _ _ hb]⟩
theorem wrap_small (p:Nat) (h:p<18446744073709551616):IntKind.u64.wrap (p:Int)=(p:Int):=by
 rw[IntKind.wrap_u64];omega
theorem or_u64 (x m:Nat) (hx:x<18446744073709551616) (hm:m<64):bits BinOp.or IntKind.u64 (x:Int) (IntKind.u64.wrap (2 ^ m))=((x ||| 2 ^ m:Nat):Int):=by
 have h2:2 ^ m<18446744073709551616:=Nat.pow_lt_pow_right (a:=2) (by omega) (show m<64 from hm)
 have e:((2:Int) ^ m)=((2 ^ m:Nat):Int):=(Int.natCast_pow 2 m).symm
 rw[e,wrap_small _ h2,bits_or_u64_nat x (2 ^ m) hx h2]
theorem or_lt (x m:Nat) (hx:x<18446744073709551616) (hm:m<64):x ||| 2 ^ m<18446744073709551616:=
 Nat.or_lt_two_pow (n:=64) hx (Nat.pow_lt_pow_right (by omega) hm)
theorem Wd.add0 {x0 x1 x2 x3:Nat}{S:Nat→Bool} (h:Wd x0 x1 x2 x3 S) (m:Nat) (hm:m<64):Wd (x0 ||| 2 ^ m) x1 x2 x3 (orS S (inSpan m m)):=by
 obtain⟨l0,l1,l2,l3,b0,b1,b2,b3⟩:=h
 refine⟨or_lt _ _ l0 hm,l1,l2,l3,fun n hn=>?_,fun n hn=>?_,fun n hn=>?_,fun n hn=>?_⟩
 ·rw[Nat.testBit_or,b0 n hn,Nat.testBit_two_pow]
  simp only[orS,inSpan]
  congr 1
  rw[Bool.eq_iff_iff];simp;omega
 all_goals
  first|rw[b1 n hn]|rw[b2 n hn]|rw[b3 n hn]
  simp only[orS,inSpan]
  rw[Bool.eq_iff_iff];simp;omega
theorem Wd.add1 {x0 x1 x2 x3:Nat}{S:Nat→Bool} (h:Wd x0 x1 x2 x3 S) (m:Nat) (hm:m<64):Wd x0 (x1 ||| 2 ^ m) x2 x3 (orS S (inSpan (64+m) (64+m))):=by
 obtain⟨l0,l1,l2,l3,b0,b1,b2,b3⟩:=h
 refine⟨l0,or_lt _ _ l1 hm,l2,l3,fun n hn=>?_,fun n hn=>?_,fun n hn=>?_,fun n hn=>?_⟩
 rotate_left
 ·rw[Nat.testBit_or,b1 n hn,Nat.testBit_two_pow]
  simp only[orS,inSpan]
  congr 1
  rw[Bool.eq_iff_iff];simp;omega
 all_goals
  first|rw[b0 n hn]|rw[b2 n hn]|rw[b3 n hn]
  simp only[orS,inSpan]
  rw[Bool.eq_iff_iff];simp;omega
theorem Wd.add2 {x0 x1 x2 x3:Nat}{S:Nat→Bool} (h:Wd x0 x1 x2 x3 S) (m:Nat) (hm:m<64):Wd x0 x1 (x2 ||| 2 ^ m) x3 (orS S (inSpan (128+m) (128+m))):=by
 obtain⟨l0,l1,l2,l3,b0,b1,b2,b3⟩:=h
 refine⟨l0,l1,or_lt _ _ l2 hm,l3,fun n hn=>?_,fun n hn=>?_,fun n hn=>?_,fun n hn=>?_⟩
 rotate_left 2
 ·rw[Nat.testBit_or,b2 n hn,Nat.testBit_two_pow]
  simp only[orS,inSpan]
  congr 1
  rw[Bool.eq_iff_iff];simp;omega
 all_goals
  first|rw[b0 n hn]|rw[b1 n hn]|rw[b3 n hn]
  simp only[orS,inSpan]
  rw[Bool.eq_iff_iff];simp;omega
theorem Wd.add3 {x0 x1 x2 x3:Nat}{S:Nat→Bool} (h:Wd x0 x1 x2 x3 S) (m:Nat) (hm:m<64):Wd x0 x1 x2 (x3 ||| 2 ^ m) (orS S (inSpan (192+m) (192+m))):=by
 obtain⟨l0,l1,l2,l3,b0,b1,b2,b3⟩:=h
 refine⟨l0,l1,l2,or_lt _ _ l3 hm,fun n hn=>?_,fun n hn=>?_,fun n hn=>?_,fun n hn=>?_⟩
 rotate_left 3
 ·rw[Nat.testBit_or,b3 n hn,Nat.testBit_two_pow]
  simp only[orS,inSpan]
  congr 1
  rw[Bool.eq_iff_iff];simp;omega
 all_goals
  first|rw[b0 n hn]|rw[b1 n hn]|rw[b2 n hn]
  simp only[orS,inSpan]
  rw[Bool.eq_iff_iff];simp;omega
theorem SetAt.put0 {w:World}{b off:Nat}{S S':Nat→Bool}{x0 x1 x2 x3 y:Nat} (h:SetAt w b off S x0 x1 x2 x3) (hw:Wd y x1 x2 x3 S'):SetAt (w.setCell ⟨b,off,none⟩ (.int .u64 y)).drew b off S' y x1 x2 x3:=by
 obtain⟨wd,c0,c1,c2,c3,fz⟩:=h
 refine⟨hw,?_,?_,?_,?_,fun o=>?_⟩<;>simp[c0,c1,c2,c3,fz,go_sem]
theorem SetAt.put1 {w:World}{b off:Nat}{S S':Nat→Bool}{x0 x1 x2 x3 y:Nat} (h:SetAt w b off S x0 x1 x2 x3) (hw:Wd x0 y x2 x3 S'):SetAt (w.setCell ⟨b,off+1,none⟩ (.int .u64 y)).drew b off S' x0 y x2 x3:=by
 obtain⟨wd,c0,c1,c2,c3,fz⟩:=h
 refine⟨hw,?_,?_,?_,?_,fun o=>?_⟩<;>simp[c0,c1,c2,c3,fz,go_sem]
theorem SetAt.put2 {w:World}{b off:Nat}{S S':Nat→Bool}{x0 x1 x2 x3 y:Nat} (h:SetAt w b off S x0 x1 x2 x3) (hw:Wd x0 x1 y x3 S'):SetAt (w.setCell ⟨b,off+2,none⟩ (.int .u64 y)).drew b off S' x0 x1 y x3:=by
 obtain⟨wd,c0,c1,c2,c3,fz⟩:=h
 refine⟨hw,?_,?_,?_,?_,fun o=>?_⟩<;>simp[c0,c1,c2,c3,fz,go_sem]
theorem SetAt.put3 {w:World}{b off:Nat}{S S':Nat→Bool}{x0 x1 x2 x3 y:Nat} (h:SetAt w b off S x0 x1 x2 x3) (hw:Wd x0 x1 x2 y S'):SetAt (w.setCell ⟨b,off+3,none⟩ (.int .u64 y)).drew b off S' x0 x1 x2 y:=by
 obtain⟨wd,c0,c1,c2,c3,fz⟩:=h
 refine⟨hw,?_,?_,?_,?_,fun o=>?_⟩<;>simp[c0,c1,c2,c3,fz,go_sem]
theorem add_any (w:World) (b off n:Nat) (S:Nat→Bool) (x0 x1 x2 x3:Nat) (hn:n<256) (h:SetAt w b off S x0 x1 x2 x3) :
  Calls Tryz.prog 221 #[.pointer (some ⟨b,off,none⟩),.int .u8 n] w fun e w'=>e=.returned (.tuple #[])∧(∃ y0 y1 y2 y3,SetAt w' b off (orS S (inSpan n n)) y0 y1 y2 y3)∧Four b off w w':=by
 have h':=h
 obtain⟨wd,c0,c1,c2,c3,fz⟩:=h
 have hq:n<64∨(64≤n∧n<128)∨(128≤n∧n<192)∨192≤n:=by omega
 rcases hq with hq|hq|hq|hq
 ·obtain⟨m,hm0⟩:∃ m,n=m:=⟨n-0,by omega⟩
  have hd:(n:Int) / 64=0:=by omega
  have hm:(n:Int)%64=(m:Int):=by omega
  have hlt:m<64:=by omega
  have HW:Hid (bits BinOp.or IntKind.u64 (x0:Int) (IntKind.u64.wrap (2 ^ m))=((x0 ||| 2 ^ m:Nat):Int)):=or_u64 x0 m wd.l0 hlt
  have f0:=fz (off)
  have HM:Hid (n=m):=hm0
  clear hm0
  go_enter Tryz.func221,Tryz.ntmps221
  go_region
  go_end0
  rw[HW.out]
  have e2:orS S (inSpan n n)=orS S (inSpan (m) (m)):=by rw[HM.out]
  rw[e2]
  exact⟨rfl,⟨_,_,_,_,h'.put0 (wd.add0 m hlt)⟩,((Four.refl _ _ _).setCell _ (by omega) _).drew⟩
 ·obtain⟨m,hm0⟩:∃ m,n=64+m:=⟨n-64,by omega⟩
  have hd:(n:Int) / 64=1:=by omega
  have hm:(n:Int)%64=(m:Int):=by omega
  have hlt:m<64:=by omega
  have HW:Hid (bits BinOp.or IntKind.u64 (x1:Int) (IntKind.u64.wrap (2 ^ m))=((x1 ||| 2 ^ m:Nat):Int)):=or_u64 x1 m wd.l1 hlt
  have f0:=fz (off+1)
  have HM:Hid (n=64+m):=hm0
  clear hm0
  go_enter Tryz.func221,Tryz.ntmps221
  go_region
  go_end0
  rw[HW.out]
  have e2:orS S (inSpan n n)=orS S (inSpan (64+m) (64+m)):=by rw[HM.out]
  rw[e2]
  exact⟨rfl,⟨_,_,_,_,h'.put1 (wd.add1 m hlt)⟩,((Four.refl _ _ _).setCell _ (by omega) _).drew⟩
 ·obtain⟨m,hm0⟩:∃ m,n=128+m:=⟨n-128,by omega⟩
  have hd:(n:Int) / 64=2:=by omega
  have hm:(n:Int)%64=(m:Int):=by omega
  have hlt:m<64:=by omega
  have HW:Hid (bits BinOp.or IntKind.u64 (x2:Int) (IntKind.u64.wrap (2 ^ m))=((x2 ||| 2 ^ m:Nat):Int)):=or_u64 x2 m wd.l2 hlt
  have f0:=fz (off+2)
  have HM:Hid (n=128+m):=hm0
  clear hm0
  go_enter Tryz.func221,Tryz.ntmps221
  go_region
  go_end0
  rw[HW.out]
  have e2:orS S (inSpan n n)=orS S (inSpan (128+m) (128+m)):=by rw[HM.out]
  rw[e2]
  exact⟨rfl,⟨_,_,_,_,h'.put2 (wd.add2 m hlt)⟩,((Four.refl _ _ _).setCell _ (by omega) _).drew⟩
 ·obtain⟨m,hm0⟩:∃ m,n=192+m:=⟨n-192,by omega⟩
  have hd:(n:Int) / 64=3:=by omega
  have hm:(n:Int)%64=(m:Int):=by omega
  have hlt:m<64:=by omega
  have HW:Hid (bits BinOp.or IntKind.u64 (x3:Int) (IntKind.u64.wrap (2 ^ m))=((x3 ||| 2 ^ m:Nat):Int)):=or_u64 x3 m wd.l3 hlt
  have f0:=fz (off+3)
  have HM:Hid (n=192+m):=hm0
  clear hm0
  go_enter Tryz.func221,Tryz.ntmps221
  go_region
  go_end0
  rw[HW.out]
  have e2:orS S (inSpan n n)=orS S (inSpan (192+m) (192+m)):=by rw[HM.out]
  rw[e2]
  exact⟨rfl,⟨_,_,_,_,h'.put3 (wd.add3 m hlt)⟩,((Four.refl _ _ _).setCell _ (by omega) _).drew⟩
theorem SetAt.congr {w:World}{b off:Nat}{S S':Nat→Bool}{x0 x1 x2 x3:Nat} (h:SetAt w b off S x0 x1 x2 x3) (e:∀ n,n<256→S n=S' n):SetAt w b off S' x0 x1 x2 x3:=by
 obtain⟨⟨l0,l1,l2,l3,b0,b1,b2,b3⟩,c0,c1,c2,c3,fz⟩:=h
 exact⟨⟨l0,l1,l2,l3,fun n hn=>(b0 n hn).trans (e _ (by omega)),fun n hn=>(b1 n hn).trans (e _ (by omega)),fun n hn=>(b2 n hn).trans (e _ (by omega)),fun n hn=>(b3 n hn).trans (e _ (by omega))⟩,c0,c1,c2,c3,fz⟩
theorem addSpan_any (w:World) (b off lo hi:Nat) (S:Nat→Bool) (hhi:hi<256) (hlo:lo<256) (h:∃ x0 x1 x2 x3,SetAt w b off S x0 x1 x2 x3) :
  Calls Tryz.prog 235 #[.pointer (some ⟨b,off,none⟩),.int .u8 lo,.int .u8 hi] w fun e w'=>e=.returned (.tuple #[])∧(∃ y0 y1 y2 y3,SetAt w' b off (orS S (inSpan lo hi)) y0 y1 y2 y3)∧Four b off w w':=by
 go_enter Tryz.func235,Tryz.ntmps235
 go_wp2
 go_loopw [6] (fun i wr=>∃ k:Nat,lo≤k∧k≤256∧i=.int .i64 k∧(k≤hi+1∨k=lo)∧(∃ y0 y1 y2 y3,SetAt wr b off (fun n=>S n||(decide (lo≤n)&&decide (n<k))) y0 y1 y2 y3)∧Four b off w wr) (fun i _=>256-(intOf i).toNat)
 case atStart=>
  obtain⟨x0,x1,x2,x3,h⟩:=h
  exact⟨lo,Nat.le_refl _,by omega,rfl,.inr rfl,⟨x0,x1,x2,x3,h.congr (fun n _=>by rw[Bool.eq_iff_iff];simp;omega)⟩,Four.refl _ _ _⟩
 case round=>
  obtain⟨k,hk0,hk1,rfl,hk2,⟨y0,y1,y2,y3,hs⟩,hf⟩:=hrel
  by_cases hlt:k≤hi
  ·have hc:=fun w h=>add_any w b off k (fun n=>S n||(decide (lo≤n)&&decide (n<k))) y0 y1 y2 y3 (by omega) h
   have HS:Hid (SetAt wr b off (fun n=>S n||(decide (lo≤n)&&decide (n<k))) y0 y1 y2 y3):=hs
   clear hs h
   go_wp2_with (go_at_call 221;refine(hc _ HS.out).mono ?_;rintro e w1 ⟨rfl,hs1,hf1⟩;have HS1:Hid _:=hs1;clear hs1)
   go_roundw
   case rel=>
    obtain⟨z0,z1,z2,z3,hz⟩:=HS1.out
    exact⟨k+1,by omega,by omega,by go_num,.inl (by omega),⟨z0,z1,z2,z3,hz.congr (fun n _=>by simp only[orS,inSpan];cases S n<;>(rw[Bool.eq_iff_iff];simp<;>omega))⟩,hf.trans hf1⟩
   case measure=>simp[intOf];omega
  ·have HS:Hid (SetAt wr b off (fun n=>S n||(decide (lo≤n)&&decide (n<k))) y0 y1 y2 y3):=hs
   clear hs h
   go_wp2
   go_end0
   exact⟨rfl,⟨y0,y1,y2,y3,HS.out.congr (fun n _=>by simp only[orS,inSpan];cases S n<;>(rw[Bool.eq_iff_iff];simp<;>omega))⟩,hf⟩
theorem or_u64' (x y:Nat) (hx:x<18446744073709551616) (hy:y<18446744073709551616):bits BinOp.or IntKind.u64 (x:Int) (y:Int)=((x ||| y:Nat):Int):=bits_or_u64_nat x y hx hy
theorem idx4_0 (a b c d:Value) (w:World):(Instr.index 148 (.agg #[a,b,c,d]) (.int .i64 0)).run Tryz.prog w=.ok a w:=by kernel_rfl
theorem idx4_1 (a b c d:Value) (w:World):(Instr.index 148 (.agg #[a,b,c,d]) (.int .i64 1)).run Tryz.prog w=.ok b w:=by kernel_rfl
theorem idx4_2 (a b c d:Value) (w:World):(Instr.index 148 (.agg #[a,b,c,d]) (.int .i64 2)).run Tryz.prog w=.ok c w:=by kernel_rfl
theorem idx4_3 (a b c d:Value) (w:World):(Instr.index 148 (.agg #[a,b,c,d]) (.int .i64 3)).run Tryz.prog w=.ok d w:=by kernel_rfl
theorem Wd.all {x0 x1 x2 x3 u0 u1 u2 u3:Nat}{S R:Nat→Bool} (h:Wd x0 x1 x2 x3 S) (g:Wd u0 u1 u2 u3 R):Wd (x0 ||| u0) (x1 ||| u1) (x2 ||| u2) (x3 ||| u3) (orS S R):=by
 obtain⟨l0,l1,l2,l3,b0,b1,b2,b3⟩:=h
 obtain⟨k0,k1,k2,k3,a0,a1,a2,a3⟩:=g
 refine⟨Nat.or_lt_two_pow (n:=64) l0 k0,Nat.or_lt_two_pow (n:=64) l1 k1,Nat.or_lt_two_pow (n:=64) l2 k2,Nat.or_lt_two_pow (n:=64) l3 k3,fun n hn=>?_,fun n hn=>?_,fun n hn=>?_,fun n hn=>?_⟩
 ·rw[Nat.testBit_or,b0 n hn,a0 n hn];rfl
 ·rw[Nat.testBit_or,b1 n hn,a1 n hn];rfl
 ·rw[Nat.testBit_or,b2 n hn,a2 n hn];rfl
 ·rw[Nat.testBit_or,b3 n hn,a3 n hn];rfl
structure Mid (w:World) (b off k:Nat) (x0 x1 x2 x3 y0 y1 y2 y3:Nat):Prop where
 c0:w.cell? ⟨b,off,none⟩=some (.int .u64 ((if 0<k then y0 else x0:Nat):Int))
 c1:w.cell? ⟨b,off+1,none⟩=some (.int .u64 ((if 1<k then y1 else x1:Nat):Int))
 c2:w.cell? ⟨b,off+2,none⟩=some (.int .u64 ((if 2<k then y2 else x2:Nat):Int))
 c3:w.cell? ⟨b,off+3,none⟩=some (.int .u64 ((if 3<k then y3 else x3:Nat):Int))
 fz:∀ o,w.frozen? ⟨b,o,none⟩=false
theorem Mid.put0 {w:World}{b off x0 x1 x2 x3 y0 y1 y2 y3:Nat} (h:Mid w b off 0 x0 x1 x2 x3 y0 y1 y2 y3):Mid (w.setCell ⟨b,off,none⟩ (.int .u64 y0)) b off 1 x0 x1 x2 x3 y0 y1 y2 y3:=by
 obtain⟨c0,c1,c2,c3,fz⟩:=h
 simp at c0 c1 c2 c3
 refine⟨?_,?_,?_,?_,fun o=>?_⟩<;>simp[c0,c1,c2,c3,fz,go_sem]
theorem Mid.put1 {w:World}{b off x0 x1 x2 x3 y0 y1 y2 y3:Nat} (h:Mid w b off 1 x0 x1 x2 x3 y0 y1 y2 y3):Mid (w.setCell ⟨b,off+1,none⟩ (.int .u64 y1)) b off 2 x0 x1 x2 x3 y0 y1 y2 y3:=by
 obtain⟨c0,c1,c2,c3,fz⟩:=h
 simp at c0 c1 c2 c3
 refine⟨?_,?_,?_,?_,fun o=>?_⟩<;>simp[c0,c1,c2,c3,fz,go_sem]
theorem Mid.put2 {w:World}{b off x0 x1 x2 x3 y0 y1 y2 y3:Nat} (h:Mid w b off 2 x0 x1 x2 x3 y0 y1 y2 y3):Mid (w.setCell ⟨b,off+2,none⟩ (.int .u64 y2)) b off 3 x0 x1 x2 x3 y0 y1 y2 y3:=by
 obtain⟨c0,c1,c2,c3,fz⟩:=h
 simp at c0 c1 c2 c3
 refine⟨?_,?_,?_,?_,fun o=>?_⟩<;>simp[c0,c1,c2,c3,fz,go_sem]
theorem Mid.put3 {w:World}{b off x0 x1 x2 x3 y0 y1 y2 y3:Nat} (h:Mid w b off 3 x0 x1 x2 x3 y0 y1 y2 y3):Mid (w.setCell ⟨b,off+3,none⟩ (.int .u64 y3)) b off 4 x0 x1 x2 x3 y0 y1 y2 y3:=by
 obtain⟨c0,c1,c2,c3,fz⟩:=h
 simp at c0 c1 c2 c3
 refine⟨?_,?_,?_,?_,fun o=>?_⟩<;>simp[c0,c1,c2,c3,fz,go_sem]
theorem Mid.drew {w:World}{b off k x0 x1 x2 x3 y0 y1 y2 y3:Nat} (h:Mid w b off k x0 x1 x2 x3 y0 y1 y2 y3):Mid w.drew b off k x0 x1 x2 x3 y0 y1 y2 y3:=⟨h.c0,h.c1,h.c2,h.c3,h.fz⟩
theorem bl_alloc {w:World}{b o:Nat} (hb:b<w.heap.size) (ob:Obj):(w.alloc ob).cell? ⟨b,o,none⟩=w.cell? ⟨b,o,none⟩:=by simp[World.cell?,Below.heap_alloc _ _ _ hb]
theorem bf_alloc {w:World}{b o:Nat} (hb:b<w.heap.size) (ob:Obj):(w.alloc ob).frozen? ⟨b,o,none⟩=w.frozen? ⟨b,o,none⟩:=by simp[World.frozen?,Below.heap_alloc _ _ _ hb]
theorem addAll_any (w:World) (b off:Nat) (S R:Nat→Bool) (u0 u1 u2 u3:Nat) (hu:Wd u0 u1 u2 u3 R) (hb:b<w.heap.size) (h:∃ x0 x1 x2 x3,SetAt w b off S x0 x1 x2 x3) :
  Calls Tryz.prog 229 #[.pointer (some ⟨b,off,none⟩),.agg #[.int .u64 u0,.int .u64 u1,.int .u64 u2,.int .u64 u3]] w fun e w'=>e=.returned (.tuple #[])∧(∃ y0 y1 y2 y3,SetAt w' b off (orS S R) y0 y1 y2 y3)∧Four b off w w':=by
 obtain⟨x0,x1,x2,x3,h⟩:=h
 obtain⟨wd,c0,c1,c2,c3,fz⟩:=h
 have HW:Hid (Wd (x0 ||| u0) (x1 ||| u1) (x2 ||| u2) (x3 ||| u3) (orS S R)):=wd.all hu
 have i0:=idx4_0
 have i1:=idx4_1
 have i2:=idx4_2
 have i3:=idx4_3
 obtain⟨z0,hz0⟩:∃ z,z=x0 ||| u0:=⟨_,rfl⟩
 obtain⟨z1,hz1⟩:∃ z,z=x1 ||| u1:=⟨_,rfl⟩
 obtain⟨z2,hz2⟩:∃ z,z=x2 ||| u2:=⟨_,rfl⟩
 obtain⟨z3,hz3⟩:∃ z,z=x3 ||| u3:=⟨_,rfl⟩
 rw[←hz0,←hz1,←hz2,←hz3] at HW
 have e0:bits BinOp.or IntKind.u64 (x0:Int) (u0:Int)=z0:=by rw[hz0];exact or_u64' _ _ wd.l0 hu.l0
 have e1:bits BinOp.or IntKind.u64 (x1:Int) (u1:Int)=z1:=by rw[hz1];exact or_u64' _ _ wd.l1 hu.l1
 have e2:bits BinOp.or IntKind.u64 (x2:Int) (u2:Int)=z2:=by rw[hz2];exact or_u64' _ _ wd.l2 hu.l2
 have e3:bits BinOp.or IntKind.u64 (x3:Int) (u3:Int)=z3:=by rw[hz3];exact or_u64' _ _ wd.l3 hu.l3
 clear hz0 hz1 hz2 hz3 wd hu
 go_enter Tryz.func229,Tryz.ntmps229
 go_wp2
 go_loopw [8] (fun i wr=>∃ k:Nat,k≤4∧i=.int .i64 k∧Mid wr b off k x0 x1 x2 x3 z0 z1 z2 z3∧Four b off w wr) (fun i _=>4-(intOf i).toNat)
 case atStart=>
  refine⟨0,by omega,rfl,⟨?_,?_,?_,?_,fun o=>?_⟩,(Four.refl _ _ _).alloc hb _⟩
  ·rw[bl_alloc hb];simpa using c0
  ·rw[bl_alloc hb];simpa using c1
  ·rw[bl_alloc hb];simpa using c2
  ·rw[bl_alloc hb];simpa using c3
  ·rw[bf_alloc hb];exact fz o
 case round=>
  clear c0 c1 c2 c3 fz
  obtain⟨k,hk,rfl,hm,hf⟩:=hrel
  have HM:Hid (Mid wr b off k x0 x1 x2 x3 z0 z1 z2 z3):=hm
  match k,hk with
  |0,_=>
   obtain⟨c0,c1,c2,c3,fz⟩:=hm
   simp at c0 c1 c2 c3
   go_wp2
   go_region
   go_wp2
   go_roundw
   case rel=>exact⟨1,by omega,by go_num,HM.out.put0.drew,(hf.setCell _ (by omega) _).drew⟩
   case measure=>simp[intOf]
  |1,_=>
   obtain⟨c0,c1,c2,c3,fz⟩:=hm
   simp at c0 c1 c2 c3
   go_wp2
   go_region
   go_wp2
   go_roundw
   case rel=>exact⟨2,by omega,by go_num,HM.out.put1.drew,(hf.setCell _ (by omega) _).drew⟩
   case measure=>simp[intOf]
  |2,_=>
   obtain⟨c0,c1,c2,c3,fz⟩:=hm
   simp at c0 c1 c2 c3
   go_wp2
   go_region
   go_wp2
   go_roundw
   case rel=>exact⟨3,by omega,by go_num,HM.out.put2.drew,(hf.setCell _ (by omega) _).drew⟩
   case measure=>simp[intOf]
  |3,_=>
   obtain⟨c0,c1,c2,c3,fz⟩:=hm
   simp at c0 c1 c2 c3
   go_wp2
   go_region
   go_wp2
   go_roundw
   case rel=>exact⟨4,by omega,by go_num,HM.out.put3.drew,(hf.setCell _ (by omega) _).drew⟩
   case measure=>simp[intOf]
  |4,_=>
   clear hm
   go_wp2
   go_end0
   obtain⟨c0,c1,c2,c3,fz⟩:=HM.out
   simp at c0 c1 c2 c3
   exact⟨rfl,⟨_,_,_,_,⟨HW.out,c0,c1,c2,c3,fz⟩⟩,hf⟩
theorem inv_u64 (x:Nat) (hx:x<18446744073709551616):bits BinOp.xor IntKind.u64 (if IntKind.u64.signed=true then -1 else IntKind.u64.max) (x:Int)=((18446744073709551615 ^^^ x:Nat):Int):=by
 have e:(if IntKind.u64.signed=true then -1 else IntKind.u64.max)=((18446744073709551615:Nat):Int):=by decide
 rw[e,bits_xor_u64_nat _ x (by omega) hx]
theorem Wd.inv {x0 x1 x2 x3:Nat}{S:Nat→Bool} (h:Wd x0 x1 x2 x3 S):Wd (18446744073709551615 ^^^ x0) (18446744073709551615 ^^^ x1) (18446744073709551615 ^^^ x2) (18446744073709551615 ^^^ x3) (fun n=>!S n):=by
 obtain⟨l0,l1,l2,l3,b0,b1,b2,b3⟩:=h
 have key:∀ x n,n<64→(18446744073709551615 ^^^ x).testBit n=!x.testBit n:=by
  intro x n hn
  have e:(18446744073709551615:Nat)=2 ^ 64-1:=by decide
  rw[Nat.testBit_xor,e,Nat.testBit_two_pow_sub_one]
  simp[hn]
 have lt:∀ x,x<18446744073709551616→18446744073709551615 ^^^ x<18446744073709551616:=fun x hx=>Nat.xor_lt_two_pow (n:=64) (by decide) hx
 refine⟨lt _ l0,lt _ l1,lt _ l2,lt _ l3,fun n hn=>?_,fun n hn=>?_,fun n hn=>?_,fun n hn=>?_⟩
 ·rw[key _ _ hn,b0 n hn]
 ·rw[key _ _ hn,b1 n hn]
 ·rw[key _ _ hn,b2 n hn]
 ·rw[key _ _ hn,b3 n hn]
theorem invert_any (w:World) (b off:Nat) (S:Nat→Bool) (h:∃ x0 x1 x2 x3,SetAt w b off S x0 x1 x2 x3) :
  Calls Tryz.prog 222 #[.pointer (some ⟨b,off,none⟩)] w fun e w'=>e=.returned (.tuple #[])∧(∃ y0 y1 y2 y3,SetAt w' b off (fun n=>!S n) y0 y1 y2 y3)∧Four b off w w':=by
 obtain⟨x0,x1,x2,x3,h⟩:=h
 obtain⟨wd,c0,c1,c2,c3,fz⟩:=h
 have i0:=idx4_0
 have i1:=idx4_1
 have i2:=idx4_2
 have i3:=idx4_3
 have HI:Hid (Wd _ _ _ _ _):=wd.inv
 obtain⟨z0,hz0⟩:∃ z,z=18446744073709551615 ^^^ x0:=⟨_,rfl⟩
 obtain⟨z1,hz1⟩:∃ z,z=18446744073709551615 ^^^ x1:=⟨_,rfl⟩
 obtain⟨z2,hz2⟩:∃ z,z=18446744073709551615 ^^^ x2:=⟨_,rfl⟩
 obtain⟨z3,hz3⟩:∃ z,z=18446744073709551615 ^^^ x3:=⟨_,rfl⟩
 rw[←hz0,←hz1,←hz2,←hz3] at HI
 have e0:bits BinOp.xor IntKind.u64 (if IntKind.u64.signed=true then -1 else IntKind.u64.max) (x0:Int)=z0:=by rw[hz0];exact inv_u64 _ wd.l0
 have e1:bits BinOp.xor IntKind.u64 (if IntKind.u64.signed=true then -1 else IntKind.u64.max) (x1:Int)=z1:=by rw[hz1];exact inv_u64 _ wd.l1
 have e2:bits BinOp.xor IntKind.u64 (if IntKind.u64.signed=true then -1 else IntKind.u64.max) (x2:Int)=z2:=by rw[hz2];exact inv_u64 _ wd.l2
 have e3:bits BinOp.xor IntKind.u64 (if IntKind.u64.signed=true then -1 else IntKind.u64.max) (x3:Int)=z3:=by rw[hz3];exact inv_u64 _ wd.l3
 clear hz0 hz1 hz2 hz3 wd
 go_enter Tryz.func222,Tryz.ntmps222
 go_wp2
 go_loopw [8] (fun i wr=>∃ k:Nat,k≤4∧i=.int .i64 k∧Mid wr b off k x0 x1 x2 x3 z0 z1 z2 z3∧Four b off w wr) (fun i _=>4-(intOf i).toNat)
 case atStart=>exact⟨0,by omega,rfl,⟨by simpa using c0,by simpa using c1,by simpa using c2,by simpa using c3,fz⟩,Four.refl _ _ _⟩
 case round=>
  clear c0 c1 c2 c3 fz
  obtain⟨k,hk,rfl,hm,hf⟩:=hrel
  have HM:Hid (Mid wr b off k x0 x1 x2 x3 z0 z1 z2 z3):=hm
  match k,hk with
  |0,_=>
   obtain⟨c0,c1,c2,c3,fz⟩:=hm
   simp at c0 c1 c2 c3
   go_wp2
   go_roundw
   case rel=>exact⟨1,by omega,by go_num,HM.out.put0,(hf.setCell _ (by omega) _)⟩
   case measure=>simp[intOf]
  |1,_=>
   obtain⟨c0,c1,c2,c3,fz⟩:=hm
   simp at c0 c1 c2 c3
   go_wp2
   go_roundw
   case rel=>exact⟨2,by omega,by go_num,HM.out.put1,(hf.setCell _ (by omega) _)⟩
   case measure=>simp[intOf]
  |2,_=>
   obtain⟨c0,c1,c2,c3,fz⟩:=hm
   simp at c0 c1 c2 c3
   go_wp2
   go_roundw
   case rel=>exact⟨3,by omega,by go_num,HM.out.put2,(hf.setCell _ (by omega) _)⟩
   case measure=>simp[intOf]
  |3,_=>
   obtain⟨c0,c1,c2,c3,fz⟩:=hm
   simp at c0 c1 c2 c3
   go_wp2
   go_roundw
   case rel=>exact⟨4,by omega,by go_num,HM.out.put3,(hf.setCell _ (by omega) _)⟩
   case measure=>simp[intOf]
  |4,_=>
   clear hm
   go_wp2
   go_end0
   obtain⟨c0,c1,c2,c3,fz⟩:=HM.out
   simp at c0 c1 c2 c3
   exact⟨rfl,⟨_,_,_,_,⟨HI.out,c0,c1,c2,c3,fz⟩⟩,hf⟩
theorem and_u64 (x m:Nat) (hx:x<18446744073709551616):(bits BinOp.and IntKind.u64 ((x:Int) / 2 ^ m) 1==1)=x.testBit m:=by
 have e:((x:Int) / 2 ^ m)=((x / 2 ^ m:Nat):Int):=by rw[Int.natCast_ediv,Int.natCast_pow];rfl
 have e1:(1:Int)=((1:Nat):Int):=rfl
 have hd:x / 2 ^ m<18446744073709551616:=Nat.lt_of_le_of_lt (Nat.div_le_self _ _) hx
 rw[e,e1,bits_and_u64_nat _ 1 hd (by omega),Nat.testBit_eq_decide_div_mod_eq,Nat.and_one_is_mod]
 rw[Bool.eq_iff_iff];simp
 omega
theorem has_any (w:World) (x0 x1 x2 x3 n:Nat) (S:Nat→Bool) (hn:n<256) (h:Wd x0 x1 x2 x3 S) :
  Calls Tryz.prog 177 #[.agg #[.int .u64 x0,.int .u64 x1,.int .u64 x2,.int .u64 x3],.int .u8 n] w fun e w'=>e=.returned (.bool (S n))∧Below w.heap.size w w':=by
 have hq:n<64∨(64≤n∧n<128)∨(128≤n∧n<192)∨192≤n:=by omega
 rcases hq with hq|hq|hq|hq
 ·obtain⟨m,hm0⟩:∃ m,n=m:=⟨n-0,by omega⟩
  have hd:(n:Int) / 64=0:=by omega
  have hm:(n:Int)%64=(m:Int):=by omega
  have hlt:m<64:=by omega
  have HS:Hid ((bits BinOp.and IntKind.u64 ((x0:Int) / 2 ^ m) 1==1)=S n):=by
   show _=_
   rw[and_u64 x0 m h.l0,h.b0 m hlt,hm0]
  clear hm0 h
  go_enter Tryz.func177,Tryz.ntmps177
  go_wp2
  go_ret
  exact⟨ret_bool HS.out,(Below.refl _ _).alloc (Nat.le_refl _) _⟩
 ·obtain⟨m,hm0⟩:∃ m,n=64+m:=⟨n-64,by omega⟩
  have hd:(n:Int) / 64=1:=by omega
  have hm:(n:Int)%64=(m:Int):=by omega
  have hlt:m<64:=by omega
  have HS:Hid ((bits BinOp.and IntKind.u64 ((x1:Int) / 2 ^ m) 1==1)=S n):=by
   show _=_
   rw[and_u64 x1 m h.l1,h.b1 m hlt,hm0]
  clear hm0 h
  go_enter Tryz.func177,Tryz.ntmps177
  go_wp2
  go_ret
  exact⟨ret_bool HS.out,(Below.refl _ _).alloc (Nat.le_refl _) _⟩
 ·obtain⟨m,hm0⟩:∃ m,n=128+m:=⟨n-128,by omega⟩
  have hd:(n:Int) / 64=2:=by omega
  have hm:(n:Int)%64=(m:Int):=by omega
  have hlt:m<64:=by omega
  have HS:Hid ((bits BinOp.and IntKind.u64 ((x2:Int) / 2 ^ m) 1==1)=S n):=by
   show _=_
   rw[and_u64 x2 m h.l2,h.b2 m hlt,hm0]
  clear hm0 h
  go_enter Tryz.func177,Tryz.ntmps177
  go_wp2
  go_ret
  exact⟨ret_bool HS.out,(Below.refl _ _).alloc (Nat.le_refl _) _⟩
 ·obtain⟨m,hm0⟩:∃ m,n=192+m:=⟨n-192,by omega⟩
  have hd:(n:Int) / 64=3:=by omega
  have hm:(n:Int)%64=(m:Int):=by omega
  have hlt:m<64:=by omega
  have HS:Hid ((bits BinOp.and IntKind.u64 ((x3:Int) / 2 ^ m) 1==1)=S n):=by
   show _=_
   rw[and_u64 x3 m h.l3,h.b3 m hlt,hm0]
  clear hm0 h
  go_enter Tryz.func177,Tryz.ntmps177
  go_wp2
  go_ret
  exact⟨ret_bool HS.out,(Below.refl _ _).alloc (Nat.le_refl _) _⟩
def suf (s:ByteArray) (k:Nat):List UInt8:=s.data.toList.drop k
theorem suf_cons {s:ByteArray}{k:Nat}{c:UInt8}{t:List UInt8} (h:suf s k=c::t):∃ hk:k<s.size,s[k]=c∧suf s (k+1)=t:=by
 have hl:k<s.data.toList.length:=by
  rcases Nat.lt_or_ge k s.data.toList.length with g|g
  ·exact g
  ·simp[suf,List.drop_eq_nil_of_le g] at h
 have hk:k<s.size:=by simpa using hl
 unfold suf at h
 rw[List.drop_eq_getElem_cons hl] at h
 injection h with h1 h2
 exact⟨hk,h1,h2⟩
theorem suf_nil {s:ByteArray}{k:Nat} (hk:k≤s.size) (h:suf s k=[]):k=s.size:=by
 unfold suf at h
 have:=List.drop_eq_nil_iff.1 h
 simp at this
 have:s.data.size=s.size:=rfl
 omega
theorem suf_len {s:ByteArray}{k:Nat}:(suf s k).length=s.size-k:=by simp[suf]
structure St (w:World) (b:Nat) (s:ByteArray) (r:List UInt8) (d x:Int):Prop where
 rd:∃ k,RdAt w b s k d x∧k≤s.size∧suf s k=r
 tb:Tabs w
 b3:4<b
 sz:s.size≤200
theorem St.lt {w:World}{b:Nat}{s:ByteArray}{r:List UInt8}{d x:Int} (h:St w b s r d x):b<w.heap.size:=by
 obtain⟨⟨k,h,_⟩,_⟩:=h;exact h.lt
theorem St.len {w:World}{b:Nat}{s:ByteArray}{r:List UInt8}{d x:Int} (h:St w b s r d x):r.length≤200:=by
 obtain⟨⟨k,_,_,h⟩,_,_,hs⟩:=h;rw[←h,suf_len];omega
theorem St.keep {w w':World}{b:Nat}{s:ByteArray}{r:List UInt8}{d x:Int} (h:St w b s r d x) (hb:∀ k,k≤b→w'.heap[k]?=w.heap[k]?) (hz:w.heap.size≤w'.heap.size):St w' b s r d x:=by
 have hc:∀ o,w'.cell? ⟨b,o,none⟩=w.cell? ⟨b,o,none⟩:=fun o=>by simp[World.cell?,hb b (Nat.le_refl _)]
 have hf:∀ o,w'.frozen? ⟨b,o,none⟩=w.frozen? ⟨b,o,none⟩:=fun o=>by simp[World.frozen?,hb b (Nat.le_refl _)]
 obtain⟨⟨k,⟨c0,c1,c2,c3,fz,lt⟩,hk,hs⟩,tb,b3,sz⟩:=h
 exact⟨⟨k,⟨(hc 0).trans c0,(hc 1).trans c1,(hc 2).trans c2,(hc 3).trans c3,fun o=>(hf o).trans (fz o),Nat.lt_of_lt_of_le lt hz⟩,hk,hs⟩,tb.of_block (fun k hk=>hb k (by omega)),b3,sz⟩
theorem St.below {w w':World}{b:Nat}{s:ByteArray}{r:List UInt8}{d x:Int} (h:St w b s r d x) (hb:Below w.heap.size w w'):St w' b s r d x:=
 h.keep (fun k hk=>hb.block k (Nat.lt_of_le_of_lt hk h.lt)) hb.size
theorem St.alloc {w:World}{b:Nat}{s:ByteArray}{r:List UInt8}{d x:Int} (h:St w b s r d x) (o:Obj):St (w.alloc o) b s r d x:=
 h.below ((Below.refl _ _).alloc (Nat.le_refl _) _)
theorem St.drewN {w:World}{b:Nat}{s:ByteArray}{r:List UInt8}{d x:Int} (h:St w b s r d x) (n:Nat):St (w.drewN n) b s r d x:=h.keep (fun _ _=>rfl) (Nat.le_refl _)
theorem St.drew {w:World}{b:Nat}{s:ByteArray}{r:List UInt8}{d x:Int} (h:St w b s r d x):St w.drew b s r d x:=h.keep (fun _ _=>rfl) (Nat.le_refl _)
theorem St.setCell {w:World}{b:Nat}{s:ByteArray}{r:List UInt8}{d x:Int} (h:St w b s r d x) {p:Addr} (hp:b<p.block) (v:Value):St (w.setCell p v) b s r d x:=
 h.keep (fun k hk=>Below.heap_setCell _ _ _ _ (by omega)) (by simp[World.setCell])
theorem St.four {w w':World}{b b' off:Nat}{s:ByteArray}{r:List UInt8}{d x:Int} (h:St w b s r d x) (hf:Four b' off w w') (hb:b<b'):St w' b s r d x:=
 h.keep (fun k hk=>hf.block k (Nat.lt_of_le_of_lt hk h.lt) (by omega)) hf.size
abbrev StTo (w w':World) (b:Nat) (s:ByteArray) (r:List UInt8) (d x:Int):Prop:=St w' b s r d x∧Rd b w w'
theorem StTo.trans {w y z:World}{b:Nat}{s:ByteArray}{r r':List UInt8}{d d' x x':Int} (h:StTo w y b s r d x) (g:StTo y z b s r' d' x'):StTo w z b s r' d' x':=⟨g.1,h.2.trans g.2⟩
theorem St.of_rd {w w':World}{b:Nat}{s:ByteArray}{r r':List UInt8}{d d' x x':Int}{k:Nat} (h:St w b s r d x) (g:RdTo w w' b s k d' x') (hk:k≤s.size) (hs:suf s k=r'):StTo w w' b s r' d' x':=
 ⟨⟨⟨k,g.1,hk,hs⟩,h.tb.of_block (fun j hj=>g.2.block j (by have:=h.tb.lt;omega) (by have:=h.b3;omega)),h.b3,h.sz⟩,g.2⟩
theorem peek_c (w:World) (b:Nat) (s:ByteArray) (c:UInt8) (t:List UInt8) (d x:Int) (h:St w b s (c::t) d x) :
  Calls Tryz.prog 172 #[.pointer (some ⟨b,0,none⟩)] w fun e w'=>e=.returned (.tuple #[.int .u8 c.toNat,.bool true])∧StTo w w' b s (c::t) d x:=by
 obtain⟨k,hr,hk,hs⟩:=h.rd
 obtain⟨hk',e1,e2⟩:=suf_cons hs
 refine(peek_some w b s k d x hr h.sz hk').mono ?_
 rintro e w' ⟨he,hw⟩
 exact⟨by rw[he,e1],h.of_rd hw hk hs⟩
theorem peek_n (w:World) (b:Nat) (s:ByteArray) (d x:Int) (h:St w b s [] d x) :
  Calls Tryz.prog 172 #[.pointer (some ⟨b,0,none⟩)] w fun e w'=>e=.returned (.tuple #[.int .u8 0,.bool false])∧StTo w w' b s [] d x:=by
 obtain⟨k,hr,hk,hs⟩:=h.rd
 refine(peek_none w b s k d x hr h.sz (suf_nil hk hs)).mono ?_
 rintro e w' ⟨he,hw⟩
 exact⟨he,h.of_rd hw hk hs⟩
theorem u8_int {a b:UInt8} (h:a≠b):(a.toNat:Int)≠b.toNat:=fun e=>h (UInt8.toNat_inj.1 (by omega))
theorem take_c (w:World) (b:Nat) (s:ByteArray) (c:UInt8) (t:List UInt8) (d x:Int) (h:St w b s (c::t) d x) (v:Int) (hv:v=c.toNat) :
  Calls Tryz.prog 121 #[.pointer (some ⟨b,0,none⟩),.int .u8 v] w fun e w'=>e=.returned (.bool true)∧StTo w w' b s t d x:=by
 obtain⟨k,hr,hk,hs⟩:=h.rd
 obtain⟨hk',e1,e2⟩:=suf_cons hs
 refine(take_yes w b s k d x v hr h.sz hk' (by rw[e1,hv])).mono ?_
 rintro e w' ⟨he,hw⟩
 exact⟨he,h.of_rd hw hk' e2⟩
theorem take_x (w:World) (b:Nat) (s:ByteArray) (c:UInt8) (t:List UInt8) (d x:Int) (h:St w b s (c::t) d x) (v:Int) (hv:(c.toNat:Int)≠v) :
  Calls Tryz.prog 121 #[.pointer (some ⟨b,0,none⟩),.int .u8 v] w fun e w'=>e=.returned (.bool false)∧StTo w w' b s (c::t) d x:=by
 obtain⟨k,hr,hk,hs⟩:=h.rd
 obtain⟨hk',e1,e2⟩:=suf_cons hs
 refine(take_no w b s k d x v hr h.sz hk' (by rw[e1];exact hv)).mono ?_
 rintro e w' ⟨he,hw⟩
 exact⟨he,h.of_rd hw hk hs⟩
theorem take_n (w:World) (b:Nat) (s:ByteArray) (d x:Int) (h:St w b s [] d x) (v:Int) :
  Calls Tryz.prog 121 #[.pointer (some ⟨b,0,none⟩),.int .u8 v] w fun e w'=>e=.returned (.bool false)∧StTo w w' b s [] d x:=by
 obtain⟨k,hr,hk,hs⟩:=h.rd
 refine(take_end w b s k d x v hr h.sz (suf_nil hk hs)).mono ?_
 rintro e w' ⟨he,hw⟩
 exact⟨he,h.of_rd hw hk hs⟩
theorem St.open {w:World}{b:Nat}{s:ByteArray}{c:UInt8}{t:List UInt8}{d x:Int} (h:St w b s (c::t) d x) :
  ∃ k:Nat,k<200∧w.cell? ⟨b,1,none⟩=some (.int .i64 k)∧w.frozen? ⟨b,1,none⟩=false∧∀ w0,Rd b w0 w→StTo w0 (w.setCell ⟨b,1,none⟩ (.int .i64 (k+1))) b s t d x:=by
 obtain⟨k,hr,hk,hs⟩:=h.rd
 obtain⟨hk',e1,e2⟩:=suf_cons hs
 have:=h.sz
 refine⟨k,by omega,hr.c1,hr.fz 1,fun w0 h0=>?_⟩
 have:=hr.step (k+1)
 have g:=h.of_rd (k:=k+1) (d':=d) (x':=x) (r':=t) ⟨by simpa using this,(Rd.refl b w).setCell 1 _⟩ hk' e2
 exact⟨by simpa using g.1,h0.setCell _ _⟩
abbrev hexS:ByteArray:=⟨#[48,49,50,51,52,53,54,55,56,57,97,98,99,100,101,102]⟩
def hexI (c:UInt8):Int:=match hexN c with|some v=>v|none=>-1
theorem all256 (p:UInt8→Bool) (h:((List.range 256).all fun n=>p (UInt8.ofNat n))=true) (c:UInt8):p c=true:=by
 rw[List.all_eq_true] at h
 have:=h c.toNat (List.mem_range.2 c.toNat_lt)
 rwa [UInt8.ofNat_toNat] at this
theorem firstIdx_hex (c:UInt8):firstIdx hexS c=hexI c:=by
 have H:((List.range 256).all fun n=>(fun c=>firstIdx hexS c==hexI c) (UInt8.ofNat n))=true:=by kernel_rfl
 exact eq_of_beq (all256 (fun c=>firstIdx hexS c==hexI c) H c)
theorem run_idx (s:ByteArray) (c:Int) (w:World):(callFunc 254 #[.string s,.int .u8 c]).run Tryz.prog w=.ok (.value (.int .i64 (firstIdx s c.toNat.toUInt8))) w:=by
 rw[run_callFunc_indexByte Tryz.func254 (by kernel_rfl) (by kernel_rfl) (by kernel_rfl) (by kernel_rfl),run_indexByte_string]
 rfl
theorem indexByte_any (c:UInt8) (w:World) :
  Calls Tryz.prog 251 #[.string hexS,.int .u8 c.toNat] w fun e w'=>e=.returned (.int .i64 (hexI c))∧w'=w:=by
 have hr:=run_idx
 have he:firstIdx hexS c=hexI c:=firstIdx_hex c
 go_enter Tryz.func251,Tryz.ntmps251
 go_wp2
 go_ret
 exact⟨rfl,rfl⟩
theorem hexI_none {c:UInt8} (h:hexN c=none):hexI c=-1:=by simp[hexI,h]
theorem hexI_some {c:UInt8}{v:Nat} (h:hexN c=some v):hexI c=v:=by simp[hexI,h]
theorem hexN_lt {c:UInt8}{v:Nat} (h:hexN c=some v):v<16:=by
 unfold hexN at h
 split at h
 ·injection h with h;omega
 ·split at h
  ·injection h with h;omega
  ·simp at h
def ByteRes (w w':World) (b:Nat) (s:ByteArray) (d x:Int) (e:Ending):Res Nat→Prop
 |.ok v r=>e=.returned (.tuple #[.int .u8 v,.bool true])∧v<256∧StTo w w' b s r d x
 |.bad r=>∃ v:Nat,e=.returned (.tuple #[.int .u8 v,.bool false])∧StTo w w' b s r d x
def Res.isOk {α:Type}:Res α→Bool|.ok _ _=>true|.bad _=>false
def Res.val0:Res Nat→Nat|.ok v _=>v|.bad _=>0
theorem hexSign_any (w:World) (b:Nat) (s:ByteArray) (r:List UInt8) (d x:Int) (least:Nat) (hl:least<256) (h:St w b s r d x) :
  Calls Tryz.prog 244 #[.pointer (some ⟨b,0,none⟩),.int .u8 least] w fun e w'=>e=.returned (.tuple #[.int .u8 (pHexSign least r).val0,.bool (pHexSign least r).isOk])∧StTo w w' b s (pHexSign least r).rest d x:=by
 match r with
 |[]=>
  have hp:=fun w h=>peek_n w b s d x h
  go_enter Tryz.func244,Tryz.ntmps244
  go_wp2_with (go_at_call 172;refine(hp _ h).mono ?_;rintro e w1 ⟨rfl,h1⟩)
  go_ret2
  exact⟨rfl,h1⟩
 |c::t=>
  have hp:=fun w h=>peek_c w b s c t d x h
  have hi:=fun w=>indexByte_any c w
  cases hx:hexN c with
  |none=>
   rw[hexI_none hx] at hi
   have hlt:(-1:Int)<least:=by omega
   have HX:Hid (hexN c=none):=hx
   clear hx
   go_enter Tryz.func244,Tryz.ntmps244
   go_wp2_with (first|(go_at_call 172;refine(hp _ h).mono ?_;rintro e w1 ⟨rfl,h1⟩)|(go_at_call 251;refine(hi _).mono ?_;rintro e w2 ⟨rfl,hw⟩;obtain rfl:=hw.symm))
   go_ret2
   simp only[pHexSign,HX.out]
   exact⟨rfl,h1⟩
  |some v=>
   rw[hexI_some hx] at hi
   have hv:=hexN_lt hx
   have HX:Hid (hexN c=some v):=hx
   clear hx
   by_cases hlt:v<least
   ·have hlt':(v:Int)<least:=by omega
    go_enter Tryz.func244,Tryz.ntmps244
    go_wp2_with (first|(go_at_call 172;refine(hp _ h).mono ?_;rintro e w1 ⟨rfl,h1⟩)|(go_at_call 251;refine(hi _).mono ?_;rintro e w2 ⟨rfl,hw⟩;obtain rfl:=hw.symm))
    go_ret2
    simp only[pHexSign,HX.out,hlt,if_true]
    exact⟨rfl,h1⟩
   ·have hlt':¬(v:Int)<least:=by omega
    go_enter Tryz.func244,Tryz.ntmps244
    go_wp2_with (first|(go_at_call 172;refine(hp _ h).mono ?_;rintro e w1 ⟨rfl,h1,hr1⟩;obtain⟨k,hk,k1,k2,kk⟩:=h1.open)|(go_at_call 251;refine(hi _).mono ?_;rintro e w2 ⟨rfl,hw⟩;obtain rfl:=hw.symm))
    go_ret2
    simp only[pHexSign,HX.out,hlt,if_false]
    exact⟨rfl,kk _ hr1⟩
theorem hexSign_lt (least:Nat) (r:List UInt8):(pHexSign least r).val0<16:=by
 match r with
 |[]=>simp[pHexSign,Res.val0]
 |c::t=>
  cases hx:hexN c with
  |none=>simp[pHexSign,Res.val0,hx]
  |some v=>
   by_cases hl:v<least
   ·simp[pHexSign,Res.val0,hx,hl]
   ·simp only[pHexSign,Res.val0,hx,hl,if_false];exact hexN_lt hx
abbrev HexC (b:Nat) (s:ByteArray) (d x:Int) (l:Int) (r:List UInt8) (P:Ending→World→World→Prop):Prop:=
 ∀ w,St w b s r d x→Calls Tryz.prog 244 #[.pointer (some ⟨b,0,none⟩),.int .u8 l] w fun e w'=>P e w w'
theorem hexByte_1 (w:World) (b:Nat) (s:ByteArray) (r r':List UInt8) (d x:Int) (least:Nat) (hl:least<256) (h:St w b s r d x)
  (h1:HexC b s d x ((least:Int) / 16) r fun e w w'=>∃ v:Nat,e=.returned (.tuple #[.int .u8 v,.bool false])∧StTo w w' b s r' d x) :
  Calls Tryz.prog 237 #[.pointer (some ⟨b,0,none⟩),.int .u8 least] w fun e w'=>∃ v:Nat,e=.returned (.tuple #[.int .u8 v,.bool false])∧StTo w w' b s r' d x:=by
 go_enter Tryz.func237,Tryz.ntmps237
 go_wp2_with (go_at_call 244;refine(h1 _ h).mono ?_;rintro e w1 ⟨v,rfl,h1'⟩)
 go_ret2
 exact⟨0,rfl,h1'⟩
theorem hexByte_2 (w:World) (b:Nat) (s:ByteArray) (r r' r'':List UInt8) (d x:Int) (least high low:Nat) (ok:Bool) (hl:least<256) (h:St w b s r d x) (hh:high<16) (hlw:low<16)
  (h1:HexC b s d x ((least:Int) / 16) r fun e w w'=>e=.returned (.tuple #[.int .u8 high,.bool true])∧StTo w w' b s r' d x)
  (hc:(least:Int) / 16<high)
  (h2:HexC b s d x 0 r' fun e w w'=>e=.returned (.tuple #[.int .u8 low,.bool ok])∧StTo w w' b s r'' d x) :
  Calls Tryz.prog 237 #[.pointer (some ⟨b,0,none⟩),.int .u8 least] w fun e w'=>e=.returned (.tuple #[.int .u8 (high*16+low:Nat),.bool ok])∧StTo w w' b s r'' d x:=by
 go_enter Tryz.func237,Tryz.ntmps237
 go_wp2_with (first|(go_at_call 244;refine(h2 _ h1'.1).mono ?_;rintro e w2 ⟨rfl,h2'⟩)|(go_at_call 244;refine(h1 _ h).mono ?_;rintro e w1 ⟨rfl,h1'⟩))
 go_ret2
 exact⟨by simp[Int.natCast_add,Int.natCast_mul],h1'.trans h2'⟩
theorem hexByte_3 (w:World) (b:Nat) (s:ByteArray) (r r' r'':List UInt8) (d x:Int) (least high low:Nat) (ok:Bool) (hl:least<256) (h:St w b s r d x) (hh:high<16) (hlw:low<16)
  (h1:HexC b s d x ((least:Int) / 16) r fun e w w'=>e=.returned (.tuple #[.int .u8 high,.bool true])∧StTo w w' b s r' d x)
  (hc:¬(least:Int) / 16<high)
  (h2:HexC b s d x ((least:Int)%16) r' fun e w w'=>e=.returned (.tuple #[.int .u8 low,.bool ok])∧StTo w w' b s r'' d x) :
  Calls Tryz.prog 237 #[.pointer (some ⟨b,0,none⟩),.int .u8 least] w fun e w'=>e=.returned (.tuple #[.int .u8 (high*16+low:Nat),.bool ok])∧StTo w w' b s r'' d x:=by
 go_enter Tryz.func237,Tryz.ntmps237
 go_wp2_with (first|(go_at_call 244;refine(h2 _ h1'.1).mono ?_;rintro e w2 ⟨rfl,h2'⟩)|(go_at_call 244;refine(h1 _ h).mono ?_;rintro e w1 ⟨rfl,h1'⟩))
 go_ret2
 exact⟨by simp[Int.natCast_add,Int.natCast_mul],h1'.trans h2'⟩
theorem hexByte_any (w:World) (b:Nat) (s:ByteArray) (r:List UInt8) (d x:Int) (least:Nat) (hl:least<256) (h:St w b s r d x) :
  Calls Tryz.prog 237 #[.pointer (some ⟨b,0,none⟩),.int .u8 least] w fun e w'=>ByteRes w w' b s d x e (pHexByte least r):=by
 have h1:=fun w h=>hexSign_any w b s r d x (least / 16) (by omega) h
 have hlt1:=hexSign_lt (least / 16) r
 have q:((least / 16:Nat):Int)=(least:Int) / 16:=by omega
 have q2:((least%16:Nat):Int)=(least:Int)%16:=by omega
 rw[q] at h1
 unfold pHexByte
 cases hR:pHexSign (least / 16) r with
 |bad r'=>
  rw[hR] at h1
  refine(hexByte_1 w b s r r' d x least hl h (fun w hw=>(h1 w hw).mono fun e w' g=>⟨0,g⟩)).mono ?_
  exact fun e w' g=>g
 |ok high r'=>
  rw[hR] at h1 hlt1
  simp only[Res.val0,Res.isOk,Res.rest] at h1 hlt1
  by_cases hc:least / 16<high
  ·have h2:=fun w h=>hexSign_any w b s r' d x 0 (by omega) h
   have hlt2:=hexSign_lt 0 r'
   simp only[hc,if_true,Nat.zero_mod]
   refine(hexByte_2 w b s r r' _ d x least high _ _ hl h hlt1 hlt2 h1 (by omega) h2).mono ?_
   intro e w' g
   cases hR2:pHexSign 0 r' with
   |bad r''=>rw[hR2] at g;exact⟨_,g⟩
   |ok low r''=>rw[hR2] at g hlt2;exact⟨g.1,by simp only[Res.val0] at hlt2;omega,g.2⟩
  ·have h2:=fun w h=>hexSign_any w b s r' d x (least%16) (by omega) h
   have hlt2:=hexSign_lt (least%16) r'
   rw[q2] at h2
   simp only[hc,if_false]
   refine(hexByte_3 w b s r r' _ d x least high _ _ hl h hlt1 hlt2 h1 (by omega) h2).mono ?_
   intro e w' g
   cases hR2:pHexSign (least%16) r' with
   |bad r''=>rw[hR2] at g;exact⟨_,g⟩
   |ok low r''=>rw[hR2] at g hlt2;exact⟨g.1,by simp only[Res.val0] at hlt2;omega,g.2⟩
theorem escB_eq (c:UInt8):escB c.toNat=(escByte c).map fun n=>(n:Int):=by
 have H:((List.range 256).all fun n=>(fun c:UInt8=>escB c.toNat==(escByte c).map fun n=>(n:Int)) (UInt8.ofNat n))=true:=by kernel_rfl
 exact eq_of_beq (all256 (fun c:UInt8=>escB c.toNat==(escByte c).map fun n=>(n:Int)) H c)
theorem escByte_lt (c:UInt8):((escByte c).getD 0)<256:=by
 have H:((List.range 256).all fun n=>(fun c:UInt8=>decide ((escByte c).getD 0<256)) (UInt8.ofNat n))=true:=by kernel_rfl
 exact of_decide_eq_true (all256 (fun c:UInt8=>decide ((escByte c).getD 0<256)) H c)
theorem u8_le (c:UInt8):(c.toNat:Int)≤255:=by have:=c.toNat_lt;omega
theorem escapedByte_c (c:UInt8) (w:World) (hT:Tabs w) :
  Calls Tryz.prog 238 #[.int .u8 c.toNat] w fun e w'=>e=.returned (.tuple #[.int .u8 ((escByte c).getD 0:Nat),.bool (escByte c).isSome])∧Below w.heap.size w w':=by
 refine(escapedByte_any c.toNat w hT (by omega) (u8_le c)).mono ?_
 rintro e w' ⟨he,hb⟩
 refine⟨?_,hb⟩
 rw[he,escB_eq]
 cases escByte c<;>rfl
theorem byteEscape_n (w:World) (b:Nat) (s:ByteArray) (d x:Int) (least:Nat) (hl:least<256) (h:St w b s [] d x) :
  Calls Tryz.prog 231 #[.pointer (some ⟨b,0,none⟩),.int .u8 least] w fun e w'=>e=.returned (.tuple #[.int .u8 0,.bool false])∧StTo w w' b s [] d x:=by
 go_enter Tryz.func231,Tryz.ntmps231
 go_wp2_with (first|(go_at_call 172;refine(peek_n _ b s d x h1.1).mono ?_;rintro e w2 ⟨rfl,h2⟩)|(go_at_call 121;refine(take_n _ b s d x h _).mono ?_;rintro e w1 ⟨rfl,h1⟩))
 go_ret2
 exact⟨rfl,h1.trans h2⟩
theorem byteEscape_x (w:World) (b:Nat) (s:ByteArray) (t:List UInt8) (d x:Int) (least:Nat) (hl:least<256) (h:St w b s (120::t) d x) (Q:Nat→Prop) (ok:Bool) (r':List UInt8)
  (h1:∀ w,St w b s t d x→Calls Tryz.prog 237 #[.pointer (some ⟨b,0,none⟩),.int .u8 least] w fun e w'=>∃ v:Nat,Q v∧e=.returned (.tuple #[.int .u8 v,.bool ok])∧StTo w w' b s r' d x) :
  Calls Tryz.prog 231 #[.pointer (some ⟨b,0,none⟩),.int .u8 least] w fun e w'=>∃ v:Nat,Q v∧e=.returned (.tuple #[.int .u8 v,.bool ok])∧StTo w w' b s r' d x:=by
 go_enter Tryz.func231,Tryz.ntmps231
 go_wp2_with (first|(go_at_call 237;refine(h1 _ g1.1).mono ?_;rintro e w2 ⟨v,hv,rfl,g2⟩)|(go_at_call 121;refine(take_c _ b s 120 t d x h 120 rfl).mono ?_;rintro e w1 ⟨rfl,g1⟩))
 go_ret2
 exact⟨_,hv,rfl,g1.trans g2⟩
abbrev EscC (c:UInt8) (v:Nat) (ok:Bool):Prop:=
 ∀ w,Tabs w→Calls Tryz.prog 238 #[.int .u8 c.toNat] w fun e w'=>e=.returned (.tuple #[.int .u8 v,.bool ok])∧Below w.heap.size w w'
theorem byteEscape_e1 (w:World) (b:Nat) (s:ByteArray) (c:UInt8) (t:List UInt8) (d x:Int) (least:Nat) (hl:least<256) (h:St w b s (c::t) d x) (hc:(c.toNat:Int)≠120) (h3:EscC c 0 false) :
  Calls Tryz.prog 231 #[.pointer (some ⟨b,0,none⟩),.int .u8 least] w fun e w'=>e=.returned (.tuple #[.int .u8 0,.bool false])∧StTo w w' b s (c::t) d x:=by
 go_enter Tryz.func231,Tryz.ntmps231
 go_wp2_with (first|(go_at_call 238;refine(h3 _ h2.1.tb).mono ?_;rintro e w3 ⟨rfl,hb3⟩)|(go_at_call 172;refine(peek_c _ b s c t d x h1.1).mono ?_;rintro e w2 ⟨rfl,h2⟩)|(go_at_call 121;refine(take_x _ b s c t d x h _ (by simpa using hc)).mono ?_;rintro e w1 ⟨rfl,h1⟩))
 go_ret2
 exact⟨rfl,h2.1.below hb3,(h1.trans h2).2.trans (Rd.of_below hb3)⟩
theorem byteEscape_e2 (w:World) (b:Nat) (s:ByteArray) (c:UInt8) (t:List UInt8) (d x:Int) (least v:Nat) (hl:least<256) (h:St w b s (c::t) d x) (hc:(c.toNat:Int)≠120) (h3:EscC c v true) (hv:(v:Int)<least) :
  Calls Tryz.prog 231 #[.pointer (some ⟨b,0,none⟩),.int .u8 least] w fun e w'=>e=.returned (.tuple #[.int .u8 0,.bool false])∧StTo w w' b s (c::t) d x:=by
 go_enter Tryz.func231,Tryz.ntmps231
 go_wp2_with (first|(go_at_call 238;refine(h3 _ h2.1.tb).mono ?_;rintro e w3 ⟨rfl,hb3⟩)|(go_at_call 172;refine(peek_c _ b s c t d x h1.1).mono ?_;rintro e w2 ⟨rfl,h2⟩)|(go_at_call 121;refine(take_x _ b s c t d x h _ (by simpa using hc)).mono ?_;rintro e w1 ⟨rfl,h1⟩))
 go_ret2
 exact⟨rfl,h2.1.below hb3,(h1.trans h2).2.trans (Rd.of_below hb3)⟩
theorem byteEscape_e3 (w:World) (b:Nat) (s:ByteArray) (c:UInt8) (t:List UInt8) (d x:Int) (least v:Nat) (hl:least<256) (h:St w b s (c::t) d x) (hc:(c.toNat:Int)≠120) (h3:EscC c v true) (hv:¬(v:Int)<least) :
  Calls Tryz.prog 231 #[.pointer (some ⟨b,0,none⟩),.int .u8 least] w fun e w'=>e=.returned (.tuple #[.int .u8 v,.bool true])∧StTo w w' b s t d x:=by
 go_enter Tryz.func231,Tryz.ntmps231
 go_wp2_with (first|(go_at_call 238;refine(h3 _ h2.1.tb).mono ?_;rintro e w3 ⟨rfl,hb3⟩;have h4:=h2.1.below hb3;obtain⟨k,hk,k1,k2,kk⟩:=h4.open)|(go_at_call 172;refine(peek_c _ b s c t d x h1.1).mono ?_;rintro e w2 ⟨rfl,h2⟩)|(go_at_call 121;refine(take_x _ b s c t d x h _ (by simpa using hc)).mono ?_;rintro e w1 ⟨rfl,h1⟩))
 go_ret2
 exact⟨rfl,kk _ ((h1.trans h2).2.trans (Rd.of_below hb3))⟩
theorem byteEscape_any (w:World) (b:Nat) (s:ByteArray) (r:List UInt8) (d x:Int) (least:Nat) (hl:least<256) (h:St w b s r d x) :
  Calls Tryz.prog 231 #[.pointer (some ⟨b,0,none⟩),.int .u8 least] w fun e w'=>ByteRes w w' b s d x e (pByteEscape least r):=by
 match r with
 |[]=>exact(byteEscape_n w b s d x least hl h).mono fun e w' g=>⟨0,g⟩
 |c::t=>
  by_cases hc:c=120
  ·subst hc
   simp only[pByteEscape,if_true]
   cases hR:pHexByte least t with
   |bad r'=>
    refine(byteEscape_x w b s t d x least hl h (fun _=>True) false r' (fun w hw=>(hexByte_any w b s t d x least hl hw).mono fun e w' g=>?_)).mono ?_
    ·rw[hR] at g;obtain⟨v,g⟩:=g;exact⟨v,trivial,g⟩
    ·rintro e w' ⟨v,-,g⟩;exact⟨v,g⟩
   |ok v0 r'=>
    refine(byteEscape_x w b s t d x least hl h (fun v=>v=v0∧v0<256) true r' (fun w hw=>(hexByte_any w b s t d x least hl hw).mono fun e w' g=>?_)).mono ?_
    ·rw[hR] at g;exact⟨v0,⟨rfl,g.2.1⟩,g.1,g.2.2⟩
    ·rintro e w' ⟨v,⟨rfl,hv⟩,g⟩;exact⟨g.1,hv,g.2⟩
  ·have hc':(c.toNat:Int)≠120:=u8_int (b:=120) hc
   have h3:=fun w hw=>escapedByte_c c w hw
   have hlt:=escByte_lt c
   simp only[pByteEscape,hc,if_false]
   cases hE:escByte c with
   |none=>
    rw[hE] at h3
    exact(byteEscape_e1 w b s c t d x least hl h hc' h3).mono fun e w' g=>⟨0,g⟩
   |some v=>
    rw[hE] at h3 hlt
    simp only[Option.getD_some] at hlt
    by_cases hv:v<least
    ·simp only[hv,if_true]
     exact(byteEscape_e2 w b s c t d x least v hl h hc' h3 (by omega)).mono fun e w' g=>⟨0,g⟩
    ·simp only[hv,if_false]
     exact(byteEscape_e3 w b s c t d x least v hl h hc' h3 (by omega)).mono fun e w' g=>⟨g.1,hlt,g.2⟩
theorem itemByte_t0 (w:World) (b:Nat) (s:ByteArray) (r r':List UInt8) (d x:Int) (least:Nat) (hl:least<256) (h:St w b s r d x) (Q:Nat→Prop) (ok:Bool)
  (h1:∀ w,St w b s r d x→Calls Tryz.prog 231 #[.pointer (some ⟨b,0,none⟩),.int .u8 least] w fun e w'=>∃ v:Nat,Q v∧e=.returned (.tuple #[.int .u8 v,.bool ok])∧StTo w w' b s r' d x) :
  Calls Tryz.prog 234 #[.pointer (some ⟨b,0,none⟩),.bool true,.int .u8 least] w fun e w'=>∃ v:Nat,Q v∧e=.returned (.tuple #[.int .u8 v,.bool ok])∧StTo w w' b s r' d x:=by
 go_enter Tryz.func234,Tryz.ntmps234
 go_wp2_with (go_at_call 231;refine(h1 _ h).mono ?_;rintro e w2 ⟨v,hv,rfl,g2⟩)
 go_ret2
 exact⟨_,hv,rfl,g2⟩
def qOf:Res Nat→Nat→Prop
 |.ok v _=>fun u=>u=v∧v<256
 |.bad _=>fun _=>True
theorem ByteRes.q {w w':World}{b:Nat}{s:ByteArray}{d x:Int}{e:Ending}{R:Res Nat} (g:ByteRes w w' b s d x e R):∃ v:Nat,qOf R v∧e=.returned (.tuple #[.int .u8 v,.bool R.isOk])∧StTo w w' b s R.rest d x:=by
 cases R with
 |ok v r=>exact⟨v,⟨rfl,g.2.1⟩,g.1,g.2.2⟩
 |bad r=>obtain⟨v,g⟩:=g;exact⟨v,trivial,g⟩
theorem ByteRes.of_q {w w':World}{b:Nat}{s:ByteArray}{d x:Int}{e:Ending}{R:Res Nat} (g:∃ v:Nat,qOf R v∧e=.returned (.tuple #[.int .u8 v,.bool R.isOk])∧StTo w w' b s R.rest d x):ByteRes w w' b s d x e R:=by
 cases R with
 |ok v r=>obtain⟨u,⟨rfl,hu⟩,g⟩:=g;exact⟨g.1,hu,g.2⟩
 |bad r=>obtain⟨v,-,g⟩:=g;exact⟨v,g⟩
theorem itemByte_t (w:World) (b:Nat) (s:ByteArray) (r:List UInt8) (d x:Int) (least:Nat) (hl:least<256) (h:St w b s r d x) :
  Calls Tryz.prog 234 #[.pointer (some ⟨b,0,none⟩),.bool true,.int .u8 least] w fun e w'=>ByteRes w w' b s d x e (pByteEscape least r):=
 (itemByte_t0 w b s r _ d x least hl h _ _ (fun w hw=>(byteEscape_any w b s r d x least hl hw).mono fun _ _ g=>g.q)).mono fun _ _ g=>ByteRes.of_q g
theorem itemByte_f (w:World) (b:Nat) (s:ByteArray) (r:List UInt8) (d x:Int) (least:Nat) (hl:least<256) (h:St w b s r d x) :
  Calls Tryz.prog 234 #[.pointer (some ⟨b,0,none⟩),.bool false,.int .u8 least] w fun e w'=>ByteRes w w' b s d x e (pPlainItem least r):=by
 match r with
 |[]=>
  go_enter Tryz.func234,Tryz.ntmps234
  go_wp2_with (go_at_call 172;refine(peek_n _ b s d x h).mono ?_;rintro e w2 ⟨rfl,h2⟩)
  go_ret2
  exact⟨0,rfl,h2⟩
 |c::t=>
  by_cases hlt:c.toNat<least
  ·have hlt':(c.toNat:Int)<least:=by omega
   have HR:Hid (pPlainItem least (c::t)=.bad (c::t)):=by show _=_;simp only[pPlainItem,hlt,if_true]
   go_enter Tryz.func234,Tryz.ntmps234
   go_wp2_with (go_at_call 172;refine(peek_c _ b s c t d x h).mono ?_;rintro e w2 ⟨rfl,h2⟩)
   go_ret2
   rw[HR.out]
   exact⟨0,rfl,h2⟩
  ·have hlt':¬(c.toNat:Int)<least:=by omega
   by_cases hs:c=92∨c=91∨c=93∨c=94∨c=45
   ·have HR:Hid (pPlainItem least (c::t)=.bad (c::t)):=by show _=_;simp only[pPlainItem,hlt,hs,if_true,if_false]
    rcases hs with rfl|rfl|rfl|rfl|rfl
    all_goals
     simp at hlt'
     go_enter Tryz.func234,Tryz.ntmps234
     go_wp2_with (go_at_call 172;refine(peek_c _ b s _ t d x h).mono ?_;rintro e w2 ⟨rfl,h2⟩)
     go_ret2
     rw[HR.out]
     exact⟨0,rfl,h2⟩
   ·have HR:Hid (pPlainItem least (c::t)=.ok c.toNat t):=by show _=_;simp only[pPlainItem,hlt,hs,if_false]
    have n1:((c.toNat:Int)==92)=false:=by simpa using u8_int (b:=92) (fun e=>hs (.inl e))
    have n2:((c.toNat:Int)==91)=false:=by simpa using u8_int (b:=91) (fun e=>hs (.inr (.inl e)))
    have n3:((c.toNat:Int)==93)=false:=by simpa using u8_int (b:=93) (fun e=>hs (.inr (.inr (.inl e))))
    have n4:((c.toNat:Int)==94)=false:=by simpa using u8_int (b:=94) (fun e=>hs (.inr (.inr (.inr (.inl e)))))
    have n5:((c.toNat:Int)==45)=false:=by simpa using u8_int (b:=45) (fun e=>hs (.inr (.inr (.inr (.inr e)))))
    clear hs
    go_enter Tryz.func234,Tryz.ntmps234
    go_wp2_with (go_at_call 172;refine(peek_c _ b s c t d x h).mono ?_;rintro e w2 ⟨rfl,h2,hr2⟩;obtain⟨k,hk,k1,k2,kk⟩:=h2.open)
    go_ret2
    rw[HR.out]
    exact⟨rfl,c.toNat_lt,kk _ hr2⟩
abbrev setE:List (Nat×Nat×Nat):=[(100,48,57),(119,48,57),(119,65,90),(119,95,95),(119,97,122),(115,9,10),(115,13,13),(115,32,32)]
theorem se_index0 (w:World):(Instr.index 361 (.agg SE) (.int .i64 0)).run Tryz.prog w=.ok (.agg #[.int .u8 100,.int .u8 48,.int .u8 57]) w:=by kernel_rfl
theorem se_index1 (w:World):(Instr.index 361 (.agg SE) (.int .i64 1)).run Tryz.prog w=.ok (.agg #[.int .u8 119,.int .u8 48,.int .u8 57]) w:=by kernel_rfl
theorem se_index2 (w:World):(Instr.index 361 (.agg SE) (.int .i64 2)).run Tryz.prog w=.ok (.agg #[.int .u8 119,.int .u8 65,.int .u8 90]) w:=by kernel_rfl
theorem se_index3 (w:World):(Instr.index 361 (.agg SE) (.int .i64 3)).run Tryz.prog w=.ok (.agg #[.int .u8 119,.int .u8 95,.int .u8 95]) w:=by kernel_rfl
theorem se_index4 (w:World):(Instr.index 361 (.agg SE) (.int .i64 4)).run Tryz.prog w=.ok (.agg #[.int .u8 119,.int .u8 97,.int .u8 122]) w:=by kernel_rfl
theorem se_index5 (w:World):(Instr.index 361 (.agg SE) (.int .i64 5)).run Tryz.prog w=.ok (.agg #[.int .u8 115,.int .u8 9,.int .u8 10]) w:=by kernel_rfl
theorem se_index6 (w:World):(Instr.index 361 (.agg SE) (.int .i64 6)).run Tryz.prog w=.ok (.agg #[.int .u8 115,.int .u8 13,.int .u8 13]) w:=by kernel_rfl
theorem se_index7 (w:World):(Instr.index 361 (.agg SE) (.int .i64 7)).run Tryz.prog w=.ok (.agg #[.int .u8 115,.int .u8 32,.int .u8 32]) w:=by kernel_rfl
theorem se_index (k:Nat) (h:k<8) (w:World):(Instr.index 361 (.agg SE) (.int .i64 k)).run Tryz.prog w=.ok (.agg #[.int .u8 ((setE.getD k (0,0,0)).1:Nat),.int .u8 ((setE.getD k (0,0,0)).2.1:Nat),.int .u8 ((setE.getD k (0,0,0)).2.2:Nat)]) w:=by
 match k,h with
 |0,_=>exact se_index0 w
 |1,_=>exact se_index1 w
 |2,_=>exact se_index2 w
 |3,_=>exact se_index3 w
 |4,_=>exact se_index4 w
 |5,_=>exact se_index5 w
 |6,_=>exact se_index6 w
 |7,_=>exact se_index7 w
 |n+8,h=>exact absurd h (by omega)
theorem setE_lt (k:Nat) (h:k<8):(setE.getD k (0,0,0)).2.1<256∧(setE.getD k (0,0,0)).2.2<256:=by
 have H:∀ i:Fin 8,(setE.getD i.val (0,0,0)).2.1<256∧(setE.getD i.val (0,0,0)).2.2<256:=by decide
 exact H ⟨k,h⟩
def accS (c:UInt8) (k:Nat) (n:Nat):Bool:=(setE.take k).any fun e=>e.1==c.toNat&&inSpan e.2.1 e.2.2 n
def fndS (c:UInt8) (k:Nat):Bool:=(setE.take k).any fun e=>e.1==c.toNat
theorem take_succ_E (k:Nat) (h:k<8):setE.take (k+1)=setE.take k++[setE.getD k (0,0,0)]:=by
 have H:∀ i:Fin 8,setE.take (i.val+1)=setE.take i.val++[setE.getD i.val (0,0,0)]:=by decide
 exact H ⟨k,h⟩
theorem acc_yes (c:UInt8) (k:Nat) (h:k<8) (e:(setE.getD k (0,0,0)).1=c.toNat) (n:Nat):accS c (k+1) n=orS (accS c k) (inSpan (setE.getD k (0,0,0)).2.1 (setE.getD k (0,0,0)).2.2) n:=by
 unfold accS;rw[take_succ_E k h];simp only[List.any_append,List.any_cons,List.any_nil,orS,e];simp
theorem acc_no (c:UInt8) (k:Nat) (h:k<8) (e:(setE.getD k (0,0,0)).1≠c.toNat) (n:Nat):accS c (k+1) n=accS c k n:=by
 unfold accS;rw[take_succ_E k h];simp only[List.any_append,List.any_cons,List.any_nil]
 have:((setE.getD k (0,0,0)).1==c.toNat)=false:=by simpa using e
 rw[this];simp
theorem fnd_yes (c:UInt8) (k:Nat) (h:k<8) (e:(setE.getD k (0,0,0)).1=c.toNat):fndS c (k+1)=true:=by
 unfold fndS;rw[take_succ_E k h];simp only[List.any_append,List.any_cons,List.any_nil,e];simp
theorem fnd_no (c:UInt8) (k:Nat) (h:k<8) (e:(setE.getD k (0,0,0)).1≠c.toNat):fndS c (k+1)=fndS c k:=by
 unfold fndS;rw[take_succ_E k h];simp only[List.any_append,List.any_cons,List.any_nil]
 have:((setE.getD k (0,0,0)).1==c.toNat)=false:=by simpa using e
 rw[this];simp
def setOf (c:UInt8):Nat→Bool:=(escSet c).getD fun _=>false
theorem fnd_all (c:UInt8):fndS c 8=(escSet c).isSome:=by
 have H:((List.range 256).all fun n=>(fun c:UInt8=>fndS c 8==(escSet c).isSome) (UInt8.ofNat n))=true:=by kernel_rfl
 exact eq_of_beq (all256 (fun c:UInt8=>fndS c 8==(escSet c).isSome) H c)
theorem acc_all (c:UInt8) (n:Nat):accS c 8 n=setOf c n:=by
 by_cases h1:c=100
 ·subst h1;simp[accS,setOf,escSet]
 ·by_cases h2:c=119
  ·subst h2;simp[accS,setOf,escSet,Bool.or_assoc]
  ·by_cases h3:c=115
   ·subst h3;simp[accS,setOf,escSet,Bool.or_assoc]
   ·have n1:¬(100=c.toNat):=fun e=>h1 (UInt8.toNat_inj.1 e.symm)
    have n2:¬(119=c.toNat):=fun e=>h2 (UInt8.toNat_inj.1 e.symm)
    have n3:¬(115=c.toNat):=fun e=>h3 (UInt8.toNat_inj.1 e.symm)
    simp[accS,setOf,escSet,h1,h2,h3,n1,n2,n3]
abbrev ExSet (w:World) (b off:Nat) (S:Nat→Bool):Prop:=∃ y0 y1 y2 y3,SetAt w b off S y0 y1 y2 y3
theorem SetAt.of_heap {w w':World}{b off:Nat}{S:Nat→Bool}{x0 x1 x2 x3:Nat} (h:SetAt w b off S x0 x1 x2 x3) (hb:w'.heap[b]?=w.heap[b]?):SetAt w' b off S x0 x1 x2 x3:=by
 have hc:∀ o,w'.cell? ⟨b,o,none⟩=w.cell? ⟨b,o,none⟩:=fun o=>by simp[World.cell?,hb]
 have hf:∀ o,w'.frozen? ⟨b,o,none⟩=w.frozen? ⟨b,o,none⟩:=fun o=>by simp[World.frozen?,hb]
 exact⟨h.wd,(hc _).trans h.c0,(hc _).trans h.c1,(hc _).trans h.c2,(hc _).trans h.c3,fun o=>(hf o).trans (h.fz o)⟩
theorem ExSet.of_heap {w w':World}{b off:Nat}{S:Nat→Bool} (h:ExSet w b off S) (hb:w'.heap[b]?=w.heap[b]?):ExSet w' b off S:=by
 obtain⟨y0,y1,y2,y3,h⟩:=h;exact⟨y0,y1,y2,y3,h.of_heap hb⟩
theorem ExSet.congr {w:World}{b off:Nat}{S S':Nat→Bool} (h:ExSet w b off S) (e:∀ n,S n=S' n):ExSet w b off S':=by
 obtain⟨y0,y1,y2,y3,h⟩:=h;exact⟨y0,y1,y2,y3,h.congr fun n _=>e n⟩
theorem ExSet.alloc {w:World}{b off:Nat}{S:Nat→Bool} (h:ExSet w b off S) (hb:b<w.heap.size) (o:Obj):ExSet (w.alloc o) b off S:=h.of_heap (Below.heap_alloc _ _ _ hb)
theorem Wd.congr {x0 x1 x2 x3:Nat}{S S':Nat→Bool} (h:Wd x0 x1 x2 x3 S) (e:∀ n,S n=S' n):Wd x0 x1 x2 x3 S':=by
 have:S=S':=funext e
 rw[←this];exact h
abbrev wv (x0 x1 x2 x3:Nat):Value:=.agg #[.int .u64 x0,.int .u64 x1,.int .u64 x2,.int .u64 x3]
theorem escapedSet_any (c:UInt8) (w:World) (hT:Tabs w) :
  Calls Tryz.prog 236 #[.int .u8 c.toNat] w fun e w'=>(∃ x0 x1 x2 x3,Wd x0 x1 x2 x3 (setOf c)∧e=.returned (.tuple #[wv x0 x1 x2 x3,.bool (escSet c).isSome]))∧Below w.heap.size w w':=by
 obtain⟨-,⟨tt,fr,hg⟩,-⟩:=hT
 have hg':((w.alloc (.cells #[.int .u64 0,.int .u64 0,.int .u64 0,.int .u64 0] 226)).alloc (.cells #[.int .u64 0,.int .u64 0,.int .u64 0,.int .u64 0] 226)).heap[3]?=some (.cells SE tt fr):=by
  have h1:3<w.heap.size:=by
   rcases Nat.lt_or_ge 3 w.heap.size with h|h
   ·exact h
   ·simp[Array.getElem?_eq_none h] at hg
  rw[Below.heap_alloc _ _ _ (by simp;omega),Below.heap_alloc _ _ _ h1];exact hg
 go_enter Tryz.func236,Tryz.ntmps236
 go_wp2_with (refine wpList_load_row rfl 361 _ rfl 3 rfl tt _ fr _ hg' Tryz.underlying361 rfl (by kernel_rfl) ?_)
 go_loopw [9,5] (fun i f wr=>∃ k:Nat,k≤8∧i=.int .i64 k∧f=.bool (fndS c k)∧(∃ y0 y1 y2 y3,SetAt wr (w.heap.size+1) 0 (accS c k) y0 y1 y2 y3)∧SetAt wr w.heap.size 0 (fun _=>false) 0 0 0 0∧Below w.heap.size w wr∧w.heap.size+1<wr.heap.size) (fun i _ _=>8-(intOf i).toNat)
 case atStart=>
  refine⟨0,by omega,rfl,rfl,⟨0,0,0,0,?_⟩,?_,(by(repeat refine Below.setCell ?_ (by first|(simp;done)|(simp;omega)) _);(repeat refine Below.alloc ?_ (by first|(simp;done)|(simp;omega)) _);exact Below.refl _ _),by simp⟩
  ·refine⟨⟨by omega,by omega,by omega,by omega,?_,?_,?_,?_⟩,?_,?_,?_,?_,?_⟩<;>simp[accS,go_sem]
  ·refine⟨⟨by omega,by omega,by omega,by omega,?_,?_,?_,?_⟩,?_,?_,?_,?_,?_⟩<;>simp[go_sem]
 case round=>
  clear hg hg'
  obtain⟨k,hk,rfl,rfl,hS,hZ,hbl,hsz⟩:=hrel
  have HS:Hid (∃ y0 y1 y2 y3,SetAt wr (w.heap.size+1) 0 (accS c k) y0 y1 y2 y3):=hS
  have HZ:Hid (SetAt wr w.heap.size 0 (fun _=>false) 0 0 0 0):=hZ
  clear hS hZ
  by_cases hlt:k<8
  ·have hix:=se_index k hlt
   obtain⟨hl1,hl2⟩:=setE_lt k hlt
   obtain⟨z1,hz1⟩:∃ z,z=(setE.getD k (0,0,0)).1:=⟨_,rfl⟩
   obtain⟨z2,hz2⟩:∃ z,z=(setE.getD k (0,0,0)).2.1:=⟨_,rfl⟩
   obtain⟨z3,hz3⟩:∃ z,z=(setE.getD k (0,0,0)).2.2:=⟨_,rfl⟩
   rw[←hz1,←hz2,←hz3] at hix
   rw[←hz2] at hl1
   rw[←hz3] at hl2
   by_cases he:z1=c.toNat
   ·have e1:∀ n,accS c (k+1) n=orS (accS c k) (inSpan z2 z3) n:=fun n=>by rw[hz2,hz3];exact acc_yes c k hlt (hz1.symm.trans he) n
    have e2:fndS c (k+1)=true:=fnd_yes c k hlt (hz1.symm.trans he)
    have E1:Hid (∀ n,accS c (k+1) n=orS (accS c k) (inSpan z2 z3) n):=e1
    have E2:Hid (fndS c (k+1)=true):=e2
    clear e1 e2 hz1 hz2 hz3
    have he':((z1:Int)==c.toNat)=true:=by rw[he];simp
    clear he
    go_wp2_with (go_at_call 235;refine(addSpan_any _ (w.heap.size+1) 0 z2 z3 (accS c k) hl2 hl1 (ExSet.alloc HS.out hsz _)).mono ?_;rintro e w1 ⟨rfl,hs1,hf1⟩;have HS1:Hid _:=hs1;clear hs1)
    go_roundw
    case rel=>
     refine⟨k+1,by omega,by go_num,by rw[E2.out],ExSet.congr HS1.out (fun n=>(E1.out n).symm),?_,?_,?_⟩
     ·exact HZ.out.of_heap ((hf1.block _ (by simp;omega) (by omega)).trans (Below.heap_alloc _ _ _ (by omega)))
     ·have hb1:Below w.heap.size (wr.alloc (.cells #[.int .u8 z1,.int .u8 z2,.int .u8 z3] 360)) w1:=⟨hf1.os,hf1.tape,hf1.output,hf1.size,fun j hj=>hf1.block j (by simp;omega) (by omega)⟩
      exact(hbl.alloc (by omega) _).trans hb1
     ·have:=hf1.size;simp at this;omega
    case measure=>simp[intOf];omega
   ·have e1:∀ n,accS c (k+1) n=accS c k n:=fun n=>acc_no c k hlt (fun e=>he (hz1.trans e)) n
    have e2:fndS c (k+1)=fndS c k:=fnd_no c k hlt (fun e=>he (hz1.trans e))
    have E1:Hid (∀ n,accS c (k+1) n=accS c k n):=e1
    have E2:Hid (fndS c (k+1)=fndS c k):=e2
    clear e1 e2 hz1 hz2 hz3
    have he':((z1:Int)==c.toNat)=false:=by simp;omega
    clear he
    go_wp2
    go_roundw
    case rel=>
     refine⟨k+1,by omega,by go_num,by rw[E2.out],ExSet.congr (ExSet.alloc HS.out hsz _) (fun n=>(E1.out n).symm),?_,hbl.alloc (by omega) _,by simp;omega⟩
     exact HZ.out.of_heap (Below.heap_alloc _ _ _ (by omega))
    case measure=>simp[intOf];omega
  ·have hk8:k=8:=by omega
   subst hk8
   obtain⟨y0,y1,y2,y3,hw,c0,c1,c2,c3,fz⟩:=HS.out
   obtain⟨-,d0,d1,d2,d3,dz⟩:=HZ.out
   simp only[Nat.zero_add] at c1 c2 c3 d1 d2 d3
   clear HS HZ
   go_wp2
   refine bodyPost_ret (v:=.tuple #[wv y0 y1 y2 y3,.bool (fndS c 8)]) (by simp[results,Tryz.results236,go_sem,d0,d1,d2,d3]) rfl ⟨⟨y0,y1,y2,y3,hw.congr (acc_all c),by rw[fnd_all]⟩,?_⟩
   exact(((hbl.setCell (Nat.le_refl _) _).setCell (Nat.le_refl _) _).setCell (Nat.le_refl _) _).setCell (Nat.le_refl _) _
abbrev zero4:Obj:=.cells #[.int .u64 0,.int .u64 0,.int .u64 0,.int .u64 0] 226
theorem wd0:Wd 0 0 0 0 (fun _=>false):=⟨by omega,by omega,by omega,by omega,fun _ _=>by simp,fun _ _=>by simp,fun _ _=>by simp,fun _ _=>by simp⟩
structure Z4 (w:World) (b:Nat):Prop where
 c0:w.cell? ⟨b,0,none⟩=some (.int .u64 0)
 c1:w.cell? ⟨b,1,none⟩=some (.int .u64 0)
 c2:w.cell? ⟨b,2,none⟩=some (.int .u64 0)
 c3:w.cell? ⟨b,3,none⟩=some (.int .u64 0)
 fz:∀ o,w.frozen? ⟨b,o,none⟩=false
theorem newZ (w:World):Z4 (w.alloc zero4) w.heap.size:=by
 refine⟨?_,?_,?_,?_,fun o=>?_⟩<;>simp[go_sem]
theorem Z4.of_heap {w w':World}{b:Nat} (h:Z4 w b) (hb:w'.heap[b]?=w.heap[b]?):Z4 w' b:=by
 have hc:∀ o,w'.cell? ⟨b,o,none⟩=w.cell? ⟨b,o,none⟩:=fun o=>by simp[World.cell?,hb]
 have hf:∀ o,w'.frozen? ⟨b,o,none⟩=w.frozen? ⟨b,o,none⟩:=fun o=>by simp[World.frozen?,hb]
 exact⟨(hc _).trans h.c0,(hc _).trans h.c1,(hc _).trans h.c2,(hc _).trans h.c3,fun o=>(hf o).trans (h.fz o)⟩
def SetRes (w w':World) (b:Nat) (s:ByteArray) (d x:Int) (e:Ending):Res (Nat→Bool)→Prop
 |.ok S r=>(∃ x0 x1 x2 x3,Wd x0 x1 x2 x3 S∧e=.returned (.tuple #[wv x0 x1 x2 x3,.bool true]))∧StTo w w' b s r d x
 |.bad r=>(∃ x0 x1 x2 x3:Nat,e=.returned (.tuple #[wv x0 x1 x2 x3,.bool false]))∧StTo w w' b s r d x
theorem Rd.setNew {b:Nat}{x w:World} (h:Rd b x w) {p:Addr} (hp:x.heap.size≤p.block) (v:Value):Rd b x (w.setCell p v):=
 ⟨h.os,h.tape,h.output,by simpa [World.setCell] using h.size,fun k hk hb=>(Below.heap_setCell _ _ _ _ (by omega)).trans (h.block k hk hb)⟩
theorem Rd.under {b:Nat}{x w:World}{o:Obj} (h:Rd b (x.alloc o) w):Rd b x w:=((Rd.refl b x).alloc o).trans h
theorem Rd.below {b:Nat}{x y w:World} (h:Rd b x y) (hb:Below y.heap.size y w):Rd b x w:=h.trans (Rd.of_below hb)
theorem Rd.four {b b' off:Nat}{x y w:World} (h:Rd b x y) (hf:Four b' off y w) (hb:x.heap.size≤b'):Rd b x w:=
 ⟨hf.os.trans h.os,hf.tape.trans h.tape,hf.output.trans h.output,Nat.le_trans h.size hf.size,fun k hk hkb=>(hf.block k (Nat.lt_of_lt_of_le hk h.size) (by omega)).trans (h.block k hk hkb)⟩
def pSetEsc:List UInt8→Res (Nat→Bool)
 |[]=>.bad []
 |c::t=>match escSet c with
  |some S=>.ok S t
  |none=>.bad (c::t)
theorem St.ne {w:World}{b:Nat}{s:ByteArray}{r:List UInt8}{d x:Int} (h:St w b s r d x):w.heap.size≠b:=by have:=h.lt;omega
theorem setEscape_n (w:World) (b:Nat) (s:ByteArray) (d x:Int) (h:St w b s [] d x) :
  Calls Tryz.prog 230 #[.pointer (some ⟨b,0,none⟩)] w fun e w'=>SetRes w w' b s d x e (pSetEsc []):=by
 have hne:=h.ne
 go_enter Tryz.func230,Tryz.ntmps230
 go_wp2_with (go_at_call 172;refine(peek_n _ b s d x (h.alloc _)).mono ?_;rintro e w1 ⟨rfl,h1,hr1⟩;obtain⟨d0,d1,d2,d3,dz⟩:=(newZ w).of_heap (hr1.block w.heap.size (by simp) hne))
 refine bodyPost_ret (v:=.tuple #[wv 0 0 0 0,.bool false]) (by simp[results,Tryz.results230,go_sem,d0,d1,d2,d3]) rfl ⟨⟨0,0,0,0,rfl⟩,?_,?_⟩
 ·have hlt:=h.lt
  exact(((h1.setCell hlt _).setCell hlt _).setCell hlt _).setCell hlt _
 ·have hr:=hr1.under
  exact(((hr.setNew (Nat.le_refl _) _).setNew (Nat.le_refl _) _).setNew (Nat.le_refl _) _).setNew (Nat.le_refl _) _
theorem setEscape_c (w:World) (b:Nat) (s:ByteArray) (c:UInt8) (t:List UInt8) (d x:Int) (h:St w b s (c::t) d x) :
  Calls Tryz.prog 230 #[.pointer (some ⟨b,0,none⟩)] w fun e w'=>SetRes w w' b s d x e (pSetEsc (c::t)):=by
 have hne:=h.ne
 have hlt:=h.lt
 have hE:=fun w hT=>escapedSet_any c w hT
 cases hS:escSet c with
 |none=>
  have HR:Hid (pSetEsc (c::t)=.bad (c::t)):=by show _=_;simp only[pSetEsc,hS]
  rw[hS] at hE
  simp only[Option.isSome_none] at hE
  clear hS
  go_enter Tryz.func230,Tryz.ntmps230
  go_wp2_with (first|(go_at_call 236;refine(hE _ h1.tb).mono ?_;rintro e w2 ⟨⟨x0,x1,x2,x3,hw,rfl⟩,hb2⟩;have h2:=h1.below hb2;have hz2:=hb2.size;have hlt2:w.heap.size<w2.heap.size:=(by omega);obtain⟨d0,d1,d2,d3,dz⟩:=hN.of_heap (hb2.block w.heap.size hz1))|(go_at_call 172;refine(peek_c _ b s c t d x (h.alloc _)).mono ?_;rintro e w1 ⟨rfl,h1,hr1⟩;have hz1:w.heap.size<w1.heap.size:=(by have:=hr1.size;simp at this;omega);have hN:=(newZ w).of_heap (hr1.block w.heap.size (by simp) hne)))
  refine bodyPost_ret (v:=.tuple #[wv x0 x1 x2 x3,.bool false]) (by simp[results,Tryz.results230,go_sem,d0,d1,d2,d3,hlt2]) rfl ?_
  rw[HR.out]
  exact⟨⟨x0,x1,x2,x3,rfl⟩,(by(repeat first|(with_reducible refine St.setCell ?_ (by first|exact hlt|(simp;done)|(simp;omega)) _)|(with_reducible refine St.alloc ?_ _)|(with_reducible refine St.drew ?_)|(with_reducible refine St.drewN ?_ _));exact h2),(by(repeat first|(with_reducible refine Rd.setNew ?_ (by first|exact Nat.le_refl _|(simp;done)|(simp;omega)) _)|(with_reducible refine Rd.alloc ?_ _)|(with_reducible refine Rd.drew ?_)|(with_reducible refine Rd.drewN ?_ _));exact hr1.under.below hb2)⟩
 |some S=>
  have HR:Hid (pSetEsc (c::t)=.ok S t):=by show _=_;simp only[pSetEsc,hS]
  have hso:setOf c=S:=by simp[setOf,hS]
  rw[hS,hso] at hE
  simp only[Option.isSome_some] at hE
  clear hS hso
  go_enter Tryz.func230,Tryz.ntmps230
  go_wp2_with (first|(go_at_call 236;refine(hE _ h1.tb).mono ?_;rintro e w2 ⟨⟨x0,x1,x2,x3,hw,rfl⟩,hb2⟩;have h2:=(h1.below hb2).alloc (.cells #[.int .u64 x0,.int .u64 x1,.int .u64 x2,.int .u64 x3] 226);obtain⟨k,hk,k1,k2,kk⟩:=h2.open;have hz2:=hb2.size;have hlt2:w.heap.size<w2.heap.size:=(by omega);obtain⟨d0,d1,d2,d3,dz⟩:=hN.of_heap (hb2.block w.heap.size hz1))|(go_at_call 172;refine(peek_c _ b s c t d x (h.alloc _)).mono ?_;rintro e w1 ⟨rfl,h1,hr1⟩;have hz1:w.heap.size<w1.heap.size:=(by have:=hr1.size;simp at this;omega);have hN:=(newZ w).of_heap (hr1.block w.heap.size (by simp) hne)))
  refine bodyPost_ret (v:=.tuple #[wv x0 x1 x2 x3,.bool true]) (by simp[results,Tryz.results230,go_sem,d0,d1,d2,d3,hlt2,hne,hne.symm]) rfl ?_
  rw[HR.out]
  have g:=kk w ((hr1.under.below hb2).alloc _)
  exact⟨⟨x0,x1,x2,x3,hw,rfl⟩,(by(repeat (with_reducible refine St.setCell ?_ (by first|exact hlt|(simp;done)|(simp;omega)) _));exact g.1),(by(repeat (with_reducible refine Rd.setNew ?_ (by first|exact Nat.le_refl _|(simp;done)|(simp;omega)) _));exact g.2)⟩
theorem setEscape_any (w:World) (b:Nat) (s:ByteArray) (r:List UInt8) (d x:Int) (h:St w b s r d x) :
  Calls Tryz.prog 230 #[.pointer (some ⟨b,0,none⟩)] w fun e w'=>SetRes w w' b s d x e (pSetEsc r):=by
 match r with
 |[]=>exact setEscape_n w b s d x h
 |c::t=>exact setEscape_c w b s c t d x h
abbrev SetC (b:Nat) (s:ByteArray) (d x:Int) (r r':List UInt8) (Q:Nat→Nat→Nat→Nat→Prop) (ok:Bool):Prop:=
 ∀ w,St w b s r d x→Calls Tryz.prog 230 #[.pointer (some ⟨b,0,none⟩)] w fun e w'=>(∃ x0 x1 x2 x3,Q x0 x1 x2 x3∧e=.returned (.tuple #[wv x0 x1 x2 x3,.bool ok]))∧StTo w w' b s r' d x
abbrev BytC (b:Nat) (s:ByteArray) (d x:Int) (l:Int) (r r':List UInt8) (Q:Nat→Prop) (ok:Bool):Prop:=
 ∀ w,St w b s r d x→Calls Tryz.prog 231 #[.pointer (some ⟨b,0,none⟩),.int .u8 l] w fun e w'=>∃ v:Nat,Q v∧e=.returned (.tuple #[.int .u8 v,.bool ok])∧StTo w w' b s r' d x
theorem escape_1 (w:World) (b:Nat) (s:ByteArray) (r r':List UInt8) (d x:Int) (h:St w b s r d x) (Q:Nat→Nat→Nat→Nat→Prop) (h1:SetC b s d x r r' Q true) :
  Calls Tryz.prog 220 #[.pointer (some ⟨b,0,none⟩)] w fun e w'=>(∃ x0 x1 x2 x3,Q x0 x1 x2 x3∧e=.returned (.tuple #[wv x0 x1 x2 x3,.bool true]))∧StTo w w' b s r' d x:=by
 have hne:=h.ne
 have hlt:=h.lt
 go_enter Tryz.func220,Tryz.ntmps220
 go_wp2_with (go_at_call 230;refine(h1 _ (h.alloc _)).mono ?_;rintro e w1 ⟨⟨x0,x1,x2,x3,hq,rfl⟩,g1,hr1⟩;have hz1:w.heap.size<w1.heap.size:=(by have:=hr1.size;simp at this;omega);obtain⟨d0,d1,d2,d3,dz⟩:=(newZ w).of_heap (hr1.block w.heap.size (by simp) hne))
 refine bodyPost_ret (v:=.tuple #[wv x0 x1 x2 x3,.bool true]) (by simp[results,Tryz.results220,go_sem,d0,d1,d2,d3,hz1]) rfl ⟨⟨x0,x1,x2,x3,hq,rfl⟩,(by(repeat first|(with_reducible refine St.setCell ?_ (by first|exact hlt|(simp;done)|(simp;omega)) _)|(with_reducible refine St.alloc ?_ _)|(with_reducible refine St.drew ?_)|(with_reducible refine St.drewN ?_ _));exact g1),(by(repeat first|(with_reducible refine Rd.setNew ?_ (by first|exact Nat.le_refl _|(simp;done)|(simp;omega)) _)|(with_reducible refine Rd.alloc ?_ _)|(with_reducible refine Rd.drew ?_)|(with_reducible refine Rd.drewN ?_ _));exact hr1.under)⟩
theorem escape_2 (w:World) (b:Nat) (s:ByteArray) (r r' r'':List UInt8) (d x:Int) (h:St w b s r d x) (Q:Nat→Nat→Nat→Nat→Prop) (Q2:Nat→Prop) (h1:SetC b s d x r r' Q false) (h2:BytC b s d x 0 r' r'' Q2 false) :
  Calls Tryz.prog 220 #[.pointer (some ⟨b,0,none⟩)] w fun e w'=>(∃ x0 x1 x2 x3:Nat,e=.returned (.tuple #[wv x0 x1 x2 x3,.bool false]))∧StTo w w' b s r'' d x:=by
 have hne:=h.ne
 have hlt:=h.lt
 go_enter Tryz.func220,Tryz.ntmps220
 go_wp2_with (first|(go_at_call 231;refine(h2 _ ((g1.alloc _).alloc _)).mono ?_;rintro e w2 ⟨v,hv,rfl,g2,hr2⟩;have hz2:w1.heap.size+1<w2.heap.size:=(by have:=hr2.size;simp at this;omega);have hlt2:w.heap.size<w2.heap.size:=(by omega);have hZ2:=hZ1.of_heap (w':=w2) ((hr2.block w.heap.size (by simp;omega) hne).trans ((Below.heap_alloc _ _ _ (by simp;omega)).trans (Below.heap_alloc _ _ _ hz1)));obtain⟨d0,d1,d2,d3,dz⟩:=hZ2;have hO2:=(newZ (w1.alloc (.cells #[.int .u64 x0,.int .u64 x1,.int .u64 x2,.int .u64 x3] 226))).of_heap (w':=w2) (hr2.block _ (by simp) (by simp;omega));simp only[World.size_alloc] at hO2;obtain⟨o0,o1,o2,o3,oz⟩:=hO2)|(go_at_call 230;refine(h1 _ (h.alloc _)).mono ?_;rintro e w1 ⟨⟨x0,x1,x2,x3,hq,rfl⟩,g1,hr1⟩;have hz1:w.heap.size<w1.heap.size:=(by have:=hr1.size;simp at this;omega);have hZ1:=(newZ w).of_heap (hr1.block w.heap.size (by simp) hne)))
 have hr:=((hr1.under.alloc _).alloc _).trans hr2
 exact bodyPost_ret (v:=.tuple #[wv 0 0 0 0,.bool false]) (by simp[results,Tryz.results220,go_sem,d0,d1,d2,d3]) rfl ⟨⟨0,0,0,0,rfl⟩,(by(repeat first|(with_reducible refine St.setCell ?_ (by first|exact hlt|(simp;done)|(simp;omega)) _)|(with_reducible refine St.alloc ?_ _)|(with_reducible refine St.drew ?_)|(with_reducible refine St.drewN ?_ _));exact g2),(by(repeat first|(with_reducible refine Rd.setNew ?_ (by first|exact Nat.le_refl _|(simp;done)|(simp;omega)) _)|(with_reducible refine Rd.alloc ?_ _)|(with_reducible refine Rd.drew ?_)|(with_reducible refine Rd.drewN ?_ _));exact hr)⟩
theorem escape_3 (w:World) (b:Nat) (s:ByteArray) (r r' r'':List UInt8) (d x:Int) (h:St w b s r d x) (Q:Nat→Nat→Nat→Nat→Prop) (Q2:Nat→Prop) (hQ2:∀ v,Q2 v→v<256) (h1:SetC b s d x r r' Q false) (h2:BytC b s d x 0 r' r'' Q2 true) :
  Calls Tryz.prog 220 #[.pointer (some ⟨b,0,none⟩)] w fun e w'=>(∃ v,Q2 v∧∃ x0 x1 x2 x3,Wd x0 x1 x2 x3 (inSpan v v)∧e=.returned (.tuple #[wv x0 x1 x2 x3,.bool true]))∧StTo w w' b s r'' d x:=by
 have hne:=h.ne
 have hlt:=h.lt
 go_enter Tryz.func220,Tryz.ntmps220
 go_wp2_with (first|(go_at_call 221;refine(add_any w2 (w1.heap.size+1) 0 v (fun _=>false) 0 0 0 0 (hQ2 v hv) ⟨wd0,o0,o1,o2,o3,oz⟩).mono ?_;rintro e w3 ⟨rfl,⟨y0,y1,y2,y3,hy⟩,hf3⟩;have hz3:=hf3.size;have hlt3:w.heap.size<w3.heap.size:=(by omega);obtain⟨hwy,p0,p1,p2,p3,pz⟩:=hy;obtain⟨f0,f1,f2,f3,ff⟩:=Z4.of_heap (w':=w3) ⟨d0,d1,d2,d3,dz⟩ (hf3.block w.heap.size hlt2 (by omega));simp only[Nat.zero_add] at p1 p2 p3)|(go_at_call 231;refine(h2 _ ((g1.alloc _).alloc _)).mono ?_;rintro e w2 ⟨v,hv,rfl,g2,hr2⟩;have hz2:w1.heap.size+1<w2.heap.size:=(by have:=hr2.size;simp at this;omega);have hlt2:w.heap.size<w2.heap.size:=(by omega);have hZ2:=hZ1.of_heap (w':=w2) ((hr2.block w.heap.size (by simp;omega) hne).trans ((Below.heap_alloc _ _ _ (by simp;omega)).trans (Below.heap_alloc _ _ _ hz1)));obtain⟨d0,d1,d2,d3,dz⟩:=hZ2;have hO2:=(newZ (w1.alloc (.cells #[.int .u64 x0,.int .u64 x1,.int .u64 x2,.int .u64 x3] 226))).of_heap (w':=w2) (hr2.block _ (by simp) (by simp;omega));simp only[World.size_alloc] at hO2;obtain⟨o0,o1,o2,o3,oz⟩:=hO2)|(go_at_call 230;refine(h1 _ (h.alloc _)).mono ?_;rintro e w1 ⟨⟨x0,x1,x2,x3,hq,rfl⟩,g1,hr1⟩;have hz1:w.heap.size<w1.heap.size:=(by have:=hr1.size;simp at this;omega);have hZ1:=(newZ w).of_heap (hr1.block w.heap.size (by simp) hne)))
 have hr:=((hr1.under.alloc _).alloc _).trans hr2
 have g3:=g2.four hf3 (by omega)
 have hr3:=hr.four hf3 (by omega)
 exact bodyPost_ret (v:=.tuple #[wv y0 y1 y2 y3,.bool true]) (by simp[results,Tryz.results220,go_sem,f0,f1,f2,f3]) rfl ⟨⟨v,hv,y0,y1,y2,y3,hwy.congr (fun n=>by simp[orS]),rfl⟩,(by(repeat first|(with_reducible refine St.setCell ?_ (by first|exact hlt|(simp;done)|(simp;omega)) _)|(with_reducible refine St.alloc ?_ _)|(with_reducible refine St.drew ?_)|(with_reducible refine St.drewN ?_ _));exact g3),(by(repeat first|(with_reducible refine Rd.setNew ?_ (by first|exact Nat.le_refl _|(simp;done)|(simp;omega)) _)|(with_reducible refine Rd.alloc ?_ _)|(with_reducible refine Rd.drew ?_)|(with_reducible refine Rd.drewN ?_ _));exact hr3)⟩
theorem escape_any (w:World) (b:Nat) (s:ByteArray) (r:List UInt8) (d x:Int) (h:St w b s r d x) :
  Calls Tryz.prog 220 #[.pointer (some ⟨b,0,none⟩)] w fun e w'=>SetRes w w' b s d x e (pEscape r):=by
 have hb:=fun w hw=>byteEscape_any w b s r d x 0 (by omega) hw
 cases hS:pSetEsc r with
 |ok S r'=>
  have hP:pEscape r=.ok S r':=by
   match r,hS with
   |[],hS=>simp[pSetEsc] at hS
   |c::t,hS=>
    simp only[pSetEsc] at hS
    simp only[pEscape]
    cases hE:escSet c with
    |none=>rw[hE] at hS;simp at hS
    |some S'=>rw[hE] at hS;simpa using hS
  rw[hP]
  refine(escape_1 w b s r r' d x h (fun x0 x1 x2 x3=>Wd x0 x1 x2 x3 S) (fun w hw=>(setEscape_any w b s r d x hw).mono fun e w' g=>?_)).mono fun e w' g=>g
  rw[hS] at g;exact g
 |bad r'=>
  have hr:r'=r∧pEscape r=(match pByteEscape 0 r with|.ok v r''=>.ok (inSpan v v) r''|.bad r''=>.bad r''):=by
   match r,hS with
   |[],hS=>simp only[pSetEsc] at hS;injection hS with e;exact⟨e.symm,rfl⟩
   |c::t,hS=>
    simp only[pSetEsc] at hS
    simp only[pEscape]
    cases hE:escSet c with
    |none=>rw[hE] at hS;injection hS with e;exact⟨e.symm,rfl⟩
    |some S'=>rw[hE] at hS;simp at hS
  obtain⟨rfl,hP⟩:=hr
  rw[hP]
  have h1:SetC b s d x r' r' (fun _ _ _ _=>True) false:=fun w hw=>(setEscape_any w b s r' d x hw).mono fun e w' g=>by
   rw[hS] at g;obtain⟨⟨x0,x1,x2,x3,g⟩,g'⟩:=g;exact⟨⟨x0,x1,x2,x3,trivial,g⟩,g'⟩
  cases hB:pByteEscape 0 r' with
  |bad r''=>
   exact(escape_2 w b s r' r' r'' d x h _ (fun _=>True) h1 (fun w hw=>(hb w hw).mono fun e w' g=>by rw[hB] at g;obtain⟨v,g⟩:=g;exact⟨v,trivial,g⟩)).mono fun e w' g=>g
  |ok v r''=>
   refine(escape_3 w b s r' r' r'' d x h _ (fun u=>u=v∧v<256) (fun u hu=>by omega) h1 (fun w hw=>(hb w hw).mono fun e w' g=>by rw[hB] at g;exact⟨v,⟨rfl,g.2.1⟩,g.1,g.2.2⟩)).mono fun e w' g=>?_
   obtain⟨⟨u,⟨rfl,hu⟩,x0,x1,x2,x3,hw,he⟩,g'⟩:=g
   exact⟨⟨x0,x1,x2,x3,hw,he⟩,g'⟩
abbrev TakC (b:Nat) (s:ByteArray) (d x:Int) (c:Int) (r r':List UInt8) (ok:Bool):Prop:=
 ∀ w,St w b s r d x→Calls Tryz.prog 121 #[.pointer (some ⟨b,0,none⟩),.int .u8 c] w fun e w'=>e=.returned (.bool ok)∧StTo w w' b s r' d x
abbrev ItmC (b:Nat) (s:ByteArray) (d x:Int) (tk:Bool) (l:Int) (r r':List UInt8) (Q:Nat→Prop) (ok:Bool):Prop:=
 ∀ w,St w b s r d x→Calls Tryz.prog 234 #[.pointer (some ⟨b,0,none⟩),.bool tk,.int .u8 l] w fun e w'=>∃ v:Nat,Q v∧e=.returned (.tuple #[.int .u8 v,.bool ok])∧StTo w w' b s r' d x
theorem new2 (w:World):Z4 ((w.alloc zero4).alloc zero4) w.heap.size∧Z4 ((w.alloc zero4).alloc zero4) (w.heap.size+1):=by
 refine⟨⟨?_,?_,?_,?_,fun o=>?_⟩,⟨?_,?_,?_,?_,fun o=>?_⟩⟩<;>simp[go_sem]
theorem Z4.set {w:World}{b:Nat} (h:Z4 w b):ExSet w b 0 (fun _=>false):=⟨0,0,0,0,wd0,h.c0,h.c1,h.c2,h.c3,h.fz⟩
theorem item_A (w:World) (b:Nat) (s:ByteArray) (r r1 r2:List UInt8) (d x:Int) (h:St w b s r d x) (Q:Nat→Nat→Nat→Nat→Prop) (ht0:TakC b s d x 92 r r1 true) (hs1:SetC b s d x r1 r2 Q true) :
  Calls Tryz.prog 228 #[.pointer (some ⟨b,0,none⟩)] w fun e w'=>(∃ x0 x1 x2 x3,Q x0 x1 x2 x3∧e=.returned (.tuple #[wv x0 x1 x2 x3,.bool true]))∧StTo w w' b s r2 d x:=by
 have hne:=h.ne
 have hlt:=h.lt
 go_enter Tryz.func228,Tryz.ntmps228
 go_wp2_with (first|(go_at_call 230;refine(hs1 _ g1).mono ?_;rintro e w2 ⟨⟨x0,x1,x2,x3,hq,rfl⟩,g2',hr2'⟩;have hr2:=(hr1.trans hr2').alloc (.cells #[.int .u64 x0,.int .u64 x1,.int .u64 x2,.int .u64 x3] 226);have g2:=g2'.alloc (.cells #[.int .u64 x0,.int .u64 x1,.int .u64 x2,.int .u64 x3] 226);have hz2:w.heap.size+1<w2.heap.size:=(by have:=(hr1.trans hr2').size;simp at this;omega);have hltF:w.heap.size<w2.heap.size:=(by omega);obtain⟨d0,d1,d2,d3,dz⟩:=(new2 w).1.of_heap ((hr1.trans hr2').block w.heap.size (by simp;omega) hne))|(go_at_call 121;refine(ht0 _ ((h.alloc _).alloc _)).mono ?_;rintro e w1 ⟨rfl,g1,hr1⟩))
 exact bodyPost_ret (v:=.tuple #[wv x0 x1 x2 x3,.bool true]) (by simp[results,Tryz.results228,go_sem,d0,d1,d2,d3,hltF]) rfl ⟨⟨x0,x1,x2,x3,hq,rfl⟩,(by(repeat first|(with_reducible refine St.setCell ?_ (by first|exact hlt|(simp;done)|(simp;omega)) _)|(with_reducible refine St.alloc ?_ _)|(with_reducible refine St.drew ?_)|(with_reducible refine St.drewN ?_ _));exact g2'),(by(repeat first|(with_reducible refine Rd.setNew ?_ (by first|exact Nat.le_refl _|(simp;done)|(simp;omega)) _)|(with_reducible refine Rd.alloc ?_ _)|(with_reducible refine Rd.drew ?_)|(with_reducible refine Rd.drewN ?_ _));exact(hr1.trans hr2').under.under)⟩
theorem item_e0 (w:World) (b:Nat) (s:ByteArray) (r r1 r2 r3:List UInt8) (d x:Int) (h:St w b s r d x) (Q:Nat→Prop) (R:Nat→Nat→Nat→Nat→Prop) (ht0:TakC b s d x 92 r r1 true) (hs1:SetC b s d x r1 r2 R false) (hi1:ItmC b s d x true 0 r2 r3 Q false) :
  Calls Tryz.prog 228 #[.pointer (some ⟨b,0,none⟩)] w fun e w'=>(∃ x0 x1 x2 x3:Nat,e=.returned (.tuple #[wv x0 x1 x2 x3,.bool false]))∧StTo w w' b s r3 d x:=by
 have hne:=h.ne
 have hlt:=h.lt
 go_enter Tryz.func228,Tryz.ntmps228
 go_wp2_with (first|(go_at_call 234;refine(hi1 _ g2).mono ?_;rintro e w3 ⟨low,hlow,rfl,g3,hr3'⟩;have hr3:=hr2.trans hr3';have hzF:w.heap.size+1<w3.heap.size:=(by have:=hr3.size;simp at this;omega);have hltF:w.heap.size<w3.heap.size:=(by omega);obtain⟨d0,d1,d2,d3,dz⟩:=(new2 w).1.of_heap (hr3.block w.heap.size (by simp;omega) hne);have hspan:=(new2 w).2.of_heap (hr3.block (w.heap.size+1) (by simp) (by omega));obtain⟨o0,o1,o2,o3,oz⟩:=hspan)|(go_at_call 230;refine(hs1 _ g1).mono ?_;rintro e w2 ⟨⟨x0,x1,x2,x3,hq,rfl⟩,g2',hr2'⟩;have hr2:=(hr1.trans hr2').alloc (.cells #[.int .u64 x0,.int .u64 x1,.int .u64 x2,.int .u64 x3] 226);have g2:=g2'.alloc (.cells #[.int .u64 x0,.int .u64 x1,.int .u64 x2,.int .u64 x3] 226);have hz2:w.heap.size+1<w2.heap.size:=(by have:=(hr1.trans hr2').size;simp at this;omega))|(go_at_call 121;refine(ht0 _ ((h.alloc _).alloc _)).mono ?_;rintro e w1 ⟨rfl,g1,hr1⟩))
 exact bodyPost_ret (v:=.tuple #[wv 0 0 0 0,.bool false]) (by simp[results,Tryz.results228,go_sem,d0,d1,d2,d3]) rfl ⟨⟨0,0,0,0,rfl⟩,(by(repeat first|(with_reducible refine St.setCell ?_ (by first|exact hlt|(simp;done)|(simp;omega)) _)|(with_reducible refine St.alloc ?_ _)|(with_reducible refine St.drew ?_)|(with_reducible refine St.drewN ?_ _));exact g3),(by(repeat first|(with_reducible refine Rd.setNew ?_ (by first|exact Nat.le_refl _|(simp;done)|(simp;omega)) _)|(with_reducible refine Rd.alloc ?_ _)|(with_reducible refine Rd.drew ?_)|(with_reducible refine Rd.drewN ?_ _));exact hr3.under.under)⟩
theorem item_e1 (w:World) (b:Nat) (s:ByteArray) (r r1 r2 r3 r4:List UInt8) (d x:Int) (h:St w b s r d x) (Q:Nat→Prop) (hQ:∀ v,Q v→v<256) (R:Nat→Nat→Nat→Nat→Prop) (ht0:TakC b s d x 92 r r1 true) (hs1:SetC b s d x r1 r2 R false) (hi1:ItmC b s d x true 0 r2 r3 Q true) (ht1:TakC b s d x 45 r3 r4 false) :
  Calls Tryz.prog 228 #[.pointer (some ⟨b,0,none⟩)] w fun e w'=>(∃ low,Q low∧∃ x0 x1 x2 x3,Wd x0 x1 x2 x3 (inSpan low low)∧e=.returned (.tuple #[wv x0 x1 x2 x3,.bool true]))∧StTo w w' b s r4 d x:=by
 have hne:=h.ne
 have hlt:=h.lt
 go_enter Tryz.func228,Tryz.ntmps228
 go_wp2_with (first|(go_at_call 235;refine(addSpan_any w4 (w.heap.size+1) 0 low low (fun _=>false) (hQ _ hlow) (hQ _ hlow) (Z4.set ⟨o0,o1,o2,o3,oz⟩)).mono ?_;rintro e wz ⟨rfl,⟨y0,y1,y2,y3,hy⟩,hfz⟩;have hzz:=hfz.size;have hltz:w.heap.size<wz.heap.size:=(by omega);obtain⟨hwy,p0,p1,p2,p3,pz⟩:=hy;obtain⟨f0,f1,f2,f3,ff⟩:=Z4.of_heap (w':=wz) ⟨d0,d1,d2,d3,dz⟩ (hfz.block w.heap.size hltF (by omega));simp only[Nat.zero_add] at p1 p2 p3)|(go_at_call 121;refine(ht1 _ g3).mono ?_;rintro e w4 ⟨rfl,g4,hr4'⟩;have hr4:=hr3.trans hr4';have hzF:w.heap.size+1<w4.heap.size:=(by have:=hr4.size;simp at this;omega);have hltF:w.heap.size<w4.heap.size:=(by omega);obtain⟨d0,d1,d2,d3,dz⟩:=(new2 w).1.of_heap (hr4.block w.heap.size (by simp;omega) hne);have hspan:=(new2 w).2.of_heap (hr4.block (w.heap.size+1) (by simp) (by omega));obtain⟨o0,o1,o2,o3,oz⟩:=hspan)|(go_at_call 234;refine(hi1 _ g2).mono ?_;rintro e w3 ⟨low,hlow,rfl,g3,hr3'⟩;have hr3:=hr2.trans hr3')|(go_at_call 230;refine(hs1 _ g1).mono ?_;rintro e w2 ⟨⟨x0,x1,x2,x3,hq,rfl⟩,g2',hr2'⟩;have hr2:=(hr1.trans hr2').alloc (.cells #[.int .u64 x0,.int .u64 x1,.int .u64 x2,.int .u64 x3] 226);have g2:=g2'.alloc (.cells #[.int .u64 x0,.int .u64 x1,.int .u64 x2,.int .u64 x3] 226);have hz2:w.heap.size+1<w2.heap.size:=(by have:=(hr1.trans hr2').size;simp at this;omega))|(go_at_call 121;refine(ht0 _ ((h.alloc _).alloc _)).mono ?_;rintro e w1 ⟨rfl,g1,hr1⟩))
 have g7:=g4.four hfz (by omega)
 have hr7:=hr4.under.under.four hfz (by omega)
 exact bodyPost_ret (v:=.tuple #[wv y0 y1 y2 y3,.bool true]) (by simp[results,Tryz.results228,go_sem,f0,f1,f2,f3]) rfl ⟨⟨low,hlow,y0,y1,y2,y3,hwy.congr (fun n=>by simp[orS]),rfl⟩,(by(repeat first|(with_reducible refine St.setCell ?_ (by first|exact hlt|(simp;done)|(simp;omega)) _)|(with_reducible refine St.alloc ?_ _)|(with_reducible refine St.drew ?_)|(with_reducible refine St.drewN ?_ _));exact g7),(by(repeat first|(with_reducible refine Rd.setNew ?_ (by first|exact Nat.le_refl _|(simp;done)|(simp;omega)) _)|(with_reducible refine Rd.alloc ?_ _)|(with_reducible refine Rd.drew ?_)|(with_reducible refine Rd.drewN ?_ _));exact hr7)⟩
theorem item_e2 (w:World) (b:Nat) (s:ByteArray) (r r1 r2 r3 r4 r5 r6:List UInt8) (d x:Int) (h:St w b s r d x) (Q:Nat→Prop) (Q2:Nat→Nat→Prop) (tk:Bool) (R:Nat→Nat→Nat→Nat→Prop) (ht0:TakC b s d x 92 r r1 true) (hs1:SetC b s d x r1 r2 R false) (hi1:ItmC b s d x true 0 r2 r3 Q true) (ht1:TakC b s d x 45 r3 r4 true) (ht2:TakC b s d x 92 r4 r5 tk) (hi2:∀ low:Nat,Q low→ItmC b s d x tk low r5 r6 (Q2 low) false) :
  Calls Tryz.prog 228 #[.pointer (some ⟨b,0,none⟩)] w fun e w'=>(∃ x0 x1 x2 x3:Nat,e=.returned (.tuple #[wv x0 x1 x2 x3,.bool false]))∧StTo w w' b s r6 d x:=by
 have hne:=h.ne
 have hlt:=h.lt
 go_enter Tryz.func228,Tryz.ntmps228
 go_wp2_with (first|(go_at_call 234;refine(hi2 low hlow _ g5).mono ?_;rintro e w6 ⟨high,hhigh,rfl,g6,hr6'⟩;have hr6:=hr5.trans hr6';have hzF:w.heap.size+1<w6.heap.size:=(by have:=hr6.size;simp at this;omega);have hltF:w.heap.size<w6.heap.size:=(by omega);obtain⟨d0,d1,d2,d3,dz⟩:=(new2 w).1.of_heap (hr6.block w.heap.size (by simp;omega) hne);have hspan:=(new2 w).2.of_heap (hr6.block (w.heap.size+1) (by simp) (by omega));obtain⟨o0,o1,o2,o3,oz⟩:=hspan)|(go_at_call 121;refine(ht2 _ g4).mono ?_;rintro e w5 ⟨rfl,g5,hr5'⟩;have hr5:=hr4.trans hr5')|(go_at_call 121;refine(ht1 _ g3).mono ?_;rintro e w4 ⟨rfl,g4,hr4'⟩;have hr4:=hr3.trans hr4')|(go_at_call 234;refine(hi1 _ g2).mono ?_;rintro e w3 ⟨low,hlow,rfl,g3,hr3'⟩;have hr3:=hr2.trans hr3')|(go_at_call 230;refine(hs1 _ g1).mono ?_;rintro e w2 ⟨⟨x0,x1,x2,x3,hq,rfl⟩,g2',hr2'⟩;have hr2:=(hr1.trans hr2').alloc (.cells #[.int .u64 x0,.int .u64 x1,.int .u64 x2,.int .u64 x3] 226);have g2:=g2'.alloc (.cells #[.int .u64 x0,.int .u64 x1,.int .u64 x2,.int .u64 x3] 226);have hz2:w.heap.size+1<w2.heap.size:=(by have:=(hr1.trans hr2').size;simp at this;omega))|(go_at_call 121;refine(ht0 _ ((h.alloc _).alloc _)).mono ?_;rintro e w1 ⟨rfl,g1,hr1⟩))
 exact bodyPost_ret (v:=.tuple #[wv 0 0 0 0,.bool false]) (by simp[results,Tryz.results228,go_sem,d0,d1,d2,d3]) rfl ⟨⟨0,0,0,0,rfl⟩,(by(repeat first|(with_reducible refine St.setCell ?_ (by first|exact hlt|(simp;done)|(simp;omega)) _)|(with_reducible refine St.alloc ?_ _)|(with_reducible refine St.drew ?_)|(with_reducible refine St.drewN ?_ _));exact g6),(by(repeat first|(with_reducible refine Rd.setNew ?_ (by first|exact Nat.le_refl _|(simp;done)|(simp;omega)) _)|(with_reducible refine Rd.alloc ?_ _)|(with_reducible refine Rd.drew ?_)|(with_reducible refine Rd.drewN ?_ _));exact hr6.under.under)⟩
theorem item_e3 (w:World) (b:Nat) (s:ByteArray) (r r1 r2 r3 r4 r5 r6:List UInt8) (d x:Int) (h:St w b s r d x) (Q:Nat→Prop) (Q2:Nat→Nat→Prop) (tk:Bool) (hQ:∀ v,Q v→v<256) (hQ2:∀ v,∀ u,Q2 v u→u<256) (R:Nat→Nat→Nat→Nat→Prop) (ht0:TakC b s d x 92 r r1 true) (hs1:SetC b s d x r1 r2 R false) (hi1:ItmC b s d x true 0 r2 r3 Q true) (ht1:TakC b s d x 45 r3 r4 true) (ht2:TakC b s d x 92 r4 r5 tk) (hi2:∀ low:Nat,Q low→ItmC b s d x tk low r5 r6 (Q2 low) true) :
  Calls Tryz.prog 228 #[.pointer (some ⟨b,0,none⟩)] w fun e w'=>(∃ low,Q low∧∃ high,Q2 low high∧∃ x0 x1 x2 x3,Wd x0 x1 x2 x3 (inSpan low high)∧e=.returned (.tuple #[wv x0 x1 x2 x3,.bool true]))∧StTo w w' b s r6 d x:=by
 have hne:=h.ne
 have hlt:=h.lt
 go_enter Tryz.func228,Tryz.ntmps228
 go_wp2_with (first|(go_at_call 235;refine(addSpan_any w6 (w.heap.size+1) 0 low high (fun _=>false) (hQ2 _ _ hhigh) (hQ _ hlow) (Z4.set ⟨o0,o1,o2,o3,oz⟩)).mono ?_;rintro e wz ⟨rfl,⟨y0,y1,y2,y3,hy⟩,hfz⟩;have hzz:=hfz.size;have hltz:w.heap.size<wz.heap.size:=(by omega);obtain⟨hwy,p0,p1,p2,p3,pz⟩:=hy;obtain⟨f0,f1,f2,f3,ff⟩:=Z4.of_heap (w':=wz) ⟨d0,d1,d2,d3,dz⟩ (hfz.block w.heap.size hltF (by omega));simp only[Nat.zero_add] at p1 p2 p3)|(go_at_call 234;refine(hi2 low hlow _ g5).mono ?_;rintro e w6 ⟨high,hhigh,rfl,g6,hr6'⟩;have hr6:=hr5.trans hr6';have hzF:w.heap.size+1<w6.heap.size:=(by have:=hr6.size;simp at this;omega);have hltF:w.heap.size<w6.heap.size:=(by omega);obtain⟨d0,d1,d2,d3,dz⟩:=(new2 w).1.of_heap (hr6.block w.heap.size (by simp;omega) hne);have hspan:=(new2 w).2.of_heap (hr6.block (w.heap.size+1) (by simp) (by omega));obtain⟨o0,o1,o2,o3,oz⟩:=hspan)|(go_at_call 121;refine(ht2 _ g4).mono ?_;rintro e w5 ⟨rfl,g5,hr5'⟩;have hr5:=hr4.trans hr5')|(go_at_call 121;refine(ht1 _ g3).mono ?_;rintro e w4 ⟨rfl,g4,hr4'⟩;have hr4:=hr3.trans hr4')|(go_at_call 234;refine(hi1 _ g2).mono ?_;rintro e w3 ⟨low,hlow,rfl,g3,hr3'⟩;have hr3:=hr2.trans hr3')|(go_at_call 230;refine(hs1 _ g1).mono ?_;rintro e w2 ⟨⟨x0,x1,x2,x3,hq,rfl⟩,g2',hr2'⟩;have hr2:=(hr1.trans hr2').alloc (.cells #[.int .u64 x0,.int .u64 x1,.int .u64 x2,.int .u64 x3] 226);have g2:=g2'.alloc (.cells #[.int .u64 x0,.int .u64 x1,.int .u64 x2,.int .u64 x3] 226);have hz2:w.heap.size+1<w2.heap.size:=(by have:=(hr1.trans hr2').size;simp at this;omega))|(go_at_call 121;refine(ht0 _ ((h.alloc _).alloc _)).mono ?_;rintro e w1 ⟨rfl,g1,hr1⟩))
 have g7:=g6.four hfz (by omega)
 have hr7:=hr6.under.under.four hfz (by omega)
 exact bodyPost_ret (v:=.tuple #[wv y0 y1 y2 y3,.bool true]) (by simp[results,Tryz.results228,go_sem,f0,f1,f2,f3]) rfl ⟨⟨low,hlow,high,hhigh,y0,y1,y2,y3,hwy.congr (fun n=>by simp[orS]),rfl⟩,(by(repeat first|(with_reducible refine St.setCell ?_ (by first|exact hlt|(simp;done)|(simp;omega)) _)|(with_reducible refine St.alloc ?_ _)|(with_reducible refine St.drew ?_)|(with_reducible refine St.drewN ?_ _));exact g7),(by(repeat first|(with_reducible refine Rd.setNew ?_ (by first|exact Nat.le_refl _|(simp;done)|(simp;omega)) _)|(with_reducible refine Rd.alloc ?_ _)|(with_reducible refine Rd.drew ?_)|(with_reducible refine Rd.drewN ?_ _));exact hr7)⟩
theorem item_p0 (w:World) (b:Nat) (s:ByteArray) (r r1 r3:List UInt8) (d x:Int) (h:St w b s r d x) (Q:Nat→Prop) (ht0:TakC b s d x 92 r r1 false) (hi1:ItmC b s d x false 0 r1 r3 Q false) :
  Calls Tryz.prog 228 #[.pointer (some ⟨b,0,none⟩)] w fun e w'=>(∃ x0 x1 x2 x3:Nat,e=.returned (.tuple #[wv x0 x1 x2 x3,.bool false]))∧StTo w w' b s r3 d x:=by
 have hne:=h.ne
 have hlt:=h.lt
 go_enter Tryz.func228,Tryz.ntmps228
 go_wp2_with (first|(go_at_call 234;refine(hi1 _ g1).mono ?_;rintro e w3 ⟨low,hlow,rfl,g3,hr3'⟩;have hr3:=hr1.trans hr3';have hzF:w.heap.size+1<w3.heap.size:=(by have:=hr3.size;simp at this;omega);have hltF:w.heap.size<w3.heap.size:=(by omega);obtain⟨d0,d1,d2,d3,dz⟩:=(new2 w).1.of_heap (hr3.block w.heap.size (by simp;omega) hne);have hspan:=(new2 w).2.of_heap (hr3.block (w.heap.size+1) (by simp) (by omega));obtain⟨o0,o1,o2,o3,oz⟩:=hspan)|(go_at_call 121;refine(ht0 _ ((h.alloc _).alloc _)).mono ?_;rintro e w1 ⟨rfl,g1,hr1⟩))
 exact bodyPost_ret (v:=.tuple #[wv 0 0 0 0,.bool false]) (by simp[results,Tryz.results228,go_sem,d0,d1,d2,d3]) rfl ⟨⟨0,0,0,0,rfl⟩,(by(repeat first|(with_reducible refine St.setCell ?_ (by first|exact hlt|(simp;done)|(simp;omega)) _)|(with_reducible refine St.alloc ?_ _)|(with_reducible refine St.drew ?_)|(with_reducible refine St.drewN ?_ _));exact g3),(by(repeat first|(with_reducible refine Rd.setNew ?_ (by first|exact Nat.le_refl _|(simp;done)|(simp;omega)) _)|(with_reducible refine Rd.alloc ?_ _)|(with_reducible refine Rd.drew ?_)|(with_reducible refine Rd.drewN ?_ _));exact hr3.under.under)⟩
theorem item_p1 (w:World) (b:Nat) (s:ByteArray) (r r1 r3 r4:List UInt8) (d x:Int) (h:St w b s r d x) (Q:Nat→Prop) (hQ:∀ v,Q v→v<256) (ht0:TakC b s d x 92 r r1 false) (hi1:ItmC b s d x false 0 r1 r3 Q true) (ht1:TakC b s d x 45 r3 r4 false) :
  Calls Tryz.prog 228 #[.pointer (some ⟨b,0,none⟩)] w fun e w'=>(∃ low,Q low∧∃ x0 x1 x2 x3,Wd x0 x1 x2 x3 (inSpan low low)∧e=.returned (.tuple #[wv x0 x1 x2 x3,.bool true]))∧StTo w w' b s r4 d x:=by
 have hne:=h.ne
 have hlt:=h.lt
 go_enter Tryz.func228,Tryz.ntmps228
 go_wp2_with (first|(go_at_call 235;refine(addSpan_any w4 (w.heap.size+1) 0 low low (fun _=>false) (hQ _ hlow) (hQ _ hlow) (Z4.set ⟨o0,o1,o2,o3,oz⟩)).mono ?_;rintro e wz ⟨rfl,⟨y0,y1,y2,y3,hy⟩,hfz⟩;have hzz:=hfz.size;have hltz:w.heap.size<wz.heap.size:=(by omega);obtain⟨hwy,p0,p1,p2,p3,pz⟩:=hy;obtain⟨f0,f1,f2,f3,ff⟩:=Z4.of_heap (w':=wz) ⟨d0,d1,d2,d3,dz⟩ (hfz.block w.heap.size hltF (by omega));simp only[Nat.zero_add] at p1 p2 p3)|(go_at_call 121;refine(ht1 _ g3).mono ?_;rintro e w4 ⟨rfl,g4,hr4'⟩;have hr4:=hr3.trans hr4';have hzF:w.heap.size+1<w4.heap.size:=(by have:=hr4.size;simp at this;omega);have hltF:w.heap.size<w4.heap.size:=(by omega);obtain⟨d0,d1,d2,d3,dz⟩:=(new2 w).1.of_heap (hr4.block w.heap.size (by simp;omega) hne);have hspan:=(new2 w).2.of_heap (hr4.block (w.heap.size+1) (by simp) (by omega));obtain⟨o0,o1,o2,o3,oz⟩:=hspan)|(go_at_call 234;refine(hi1 _ g1).mono ?_;rintro e w3 ⟨low,hlow,rfl,g3,hr3'⟩;have hr3:=hr1.trans hr3')|(go_at_call 121;refine(ht0 _ ((h.alloc _).alloc _)).mono ?_;rintro e w1 ⟨rfl,g1,hr1⟩))
 have g7:=g4.four hfz (by omega)
 have hr7:=hr4.under.under.four hfz (by omega)
 exact bodyPost_ret (v:=.tuple #[wv y0 y1 y2 y3,.bool true]) (by simp[results,Tryz.results228,go_sem,f0,f1,f2,f3]) rfl ⟨⟨low,hlow,y0,y1,y2,y3,hwy.congr (fun n=>by simp[orS]),rfl⟩,(by(repeat first|(with_reducible refine St.setCell ?_ (by first|exact hlt|(simp;done)|(simp;omega)) _)|(with_reducible refine St.alloc ?_ _)|(with_reducible refine St.drew ?_)|(with_reducible refine St.drewN ?_ _));exact g7),(by(repeat first|(with_reducible refine Rd.setNew ?_ (by first|exact Nat.le_refl _|(simp;done)|(simp;omega)) _)|(with_reducible refine Rd.alloc ?_ _)|(with_reducible refine Rd.drew ?_)|(with_reducible refine Rd.drewN ?_ _));exact hr7)⟩
theorem item_p2 (w:World) (b:Nat) (s:ByteArray) (r r1 r3 r4 r5 r6:List UInt8) (d x:Int) (h:St w b s r d x) (Q:Nat→Prop) (Q2:Nat→Nat→Prop) (tk:Bool) (ht0:TakC b s d x 92 r r1 false) (hi1:ItmC b s d x false 0 r1 r3 Q true) (ht1:TakC b s d x 45 r3 r4 true) (ht2:TakC b s d x 92 r4 r5 tk) (hi2:∀ low:Nat,Q low→ItmC b s d x tk low r5 r6 (Q2 low) false) :
  Calls Tryz.prog 228 #[.pointer (some ⟨b,0,none⟩)] w fun e w'=>(∃ x0 x1 x2 x3:Nat,e=.returned (.tuple #[wv x0 x1 x2 x3,.bool false]))∧StTo w w' b s r6 d x:=by
 have hne:=h.ne
 have hlt:=h.lt
 go_enter Tryz.func228,Tryz.ntmps228
 go_wp2_with (first|(go_at_call 234;refine(hi2 low hlow _ g5).mono ?_;rintro e w6 ⟨high,hhigh,rfl,g6,hr6'⟩;have hr6:=hr5.trans hr6';have hzF:w.heap.size+1<w6.heap.size:=(by have:=hr6.size;simp at this;omega);have hltF:w.heap.size<w6.heap.size:=(by omega);obtain⟨d0,d1,d2,d3,dz⟩:=(new2 w).1.of_heap (hr6.block w.heap.size (by simp;omega) hne);have hspan:=(new2 w).2.of_heap (hr6.block (w.heap.size+1) (by simp) (by omega));obtain⟨o0,o1,o2,o3,oz⟩:=hspan)|(go_at_call 121;refine(ht2 _ g4).mono ?_;rintro e w5 ⟨rfl,g5,hr5'⟩;have hr5:=hr4.trans hr5')|(go_at_call 121;refine(ht1 _ g3).mono ?_;rintro e w4 ⟨rfl,g4,hr4'⟩;have hr4:=hr3.trans hr4')|(go_at_call 234;refine(hi1 _ g1).mono ?_;rintro e w3 ⟨low,hlow,rfl,g3,hr3'⟩;have hr3:=hr1.trans hr3')|(go_at_call 121;refine(ht0 _ ((h.alloc _).alloc _)).mono ?_;rintro e w1 ⟨rfl,g1,hr1⟩))
 exact bodyPost_ret (v:=.tuple #[wv 0 0 0 0,.bool false]) (by simp[results,Tryz.results228,go_sem,d0,d1,d2,d3]) rfl ⟨⟨0,0,0,0,rfl⟩,(by(repeat first|(with_reducible refine St.setCell ?_ (by first|exact hlt|(simp;done)|(simp;omega)) _)|(with_reducible refine St.alloc ?_ _)|(with_reducible refine St.drew ?_)|(with_reducible refine St.drewN ?_ _));exact g6),(by(repeat first|(with_reducible refine Rd.setNew ?_ (by first|exact Nat.le_refl _|(simp;done)|(simp;omega)) _)|(with_reducible refine Rd.alloc ?_ _)|(with_reducible refine Rd.drew ?_)|(with_reducible refine Rd.drewN ?_ _));exact hr6.under.under)⟩
theorem item_p3 (w:World) (b:Nat) (s:ByteArray) (r r1 r3 r4 r5 r6:List UInt8) (d x:Int) (h:St w b s r d x) (Q:Nat→Prop) (Q2:Nat→Nat→Prop) (tk:Bool) (hQ:∀ v,Q v→v<256) (hQ2:∀ v,∀ u,Q2 v u→u<256) (ht0:TakC b s d x 92 r r1 false) (hi1:ItmC b s d x false 0 r1 r3 Q true) (ht1:TakC b s d x 45 r3 r4 true) (ht2:TakC b s d x 92 r4 r5 tk) (hi2:∀ low:Nat,Q low→ItmC b s d x tk low r5 r6 (Q2 low) true) :
  Calls Tryz.prog 228 #[.pointer (some ⟨b,0,none⟩)] w fun e w'=>(∃ low,Q low∧∃ high,Q2 low high∧∃ x0 x1 x2 x3,Wd x0 x1 x2 x3 (inSpan low high)∧e=.returned (.tuple #[wv x0 x1 x2 x3,.bool true]))∧StTo w w' b s r6 d x:=by
 have hne:=h.ne
 have hlt:=h.lt
 go_enter Tryz.func228,Tryz.ntmps228
 go_wp2_with (first|(go_at_call 235;refine(addSpan_any w6 (w.heap.size+1) 0 low high (fun _=>false) (hQ2 _ _ hhigh) (hQ _ hlow) (Z4.set ⟨o0,o1,o2,o3,oz⟩)).mono ?_;rintro e wz ⟨rfl,⟨y0,y1,y2,y3,hy⟩,hfz⟩;have hzz:=hfz.size;have hltz:w.heap.size<wz.heap.size:=(by omega);obtain⟨hwy,p0,p1,p2,p3,pz⟩:=hy;obtain⟨f0,f1,f2,f3,ff⟩:=Z4.of_heap (w':=wz) ⟨d0,d1,d2,d3,dz⟩ (hfz.block w.heap.size hltF (by omega));simp only[Nat.zero_add] at p1 p2 p3)|(go_at_call 234;refine(hi2 low hlow _ g5).mono ?_;rintro e w6 ⟨high,hhigh,rfl,g6,hr6'⟩;have hr6:=hr5.trans hr6';have hzF:w.heap.size+1<w6.heap.size:=(by have:=hr6.size;simp at this;omega);have hltF:w.heap.size<w6.heap.size:=(by omega);obtain⟨d0,d1,d2,d3,dz⟩:=(new2 w).1.of_heap (hr6.block w.heap.size (by simp;omega) hne);have hspan:=(new2 w).2.of_heap (hr6.block (w.heap.size+1) (by simp) (by omega));obtain⟨o0,o1,o2,o3,oz⟩:=hspan)|(go_at_call 121;refine(ht2 _ g4).mono ?_;rintro e w5 ⟨rfl,g5,hr5'⟩;have hr5:=hr4.trans hr5')|(go_at_call 121;refine(ht1 _ g3).mono ?_;rintro e w4 ⟨rfl,g4,hr4'⟩;have hr4:=hr3.trans hr4')|(go_at_call 234;refine(hi1 _ g1).mono ?_;rintro e w3 ⟨low,hlow,rfl,g3,hr3'⟩;have hr3:=hr1.trans hr3')|(go_at_call 121;refine(ht0 _ ((h.alloc _).alloc _)).mono ?_;rintro e w1 ⟨rfl,g1,hr1⟩))
 have g7:=g6.four hfz (by omega)
 have hr7:=hr6.under.under.four hfz (by omega)
 exact bodyPost_ret (v:=.tuple #[wv y0 y1 y2 y3,.bool true]) (by simp[results,Tryz.results228,go_sem,f0,f1,f2,f3]) rfl ⟨⟨low,hlow,high,hhigh,y0,y1,y2,y3,hwy.congr (fun n=>by simp[orS]),rfl⟩,(by(repeat first|(with_reducible refine St.setCell ?_ (by first|exact hlt|(simp;done)|(simp;omega)) _)|(with_reducible refine St.alloc ?_ _)|(with_reducible refine St.drew ?_)|(with_reducible refine St.drewN ?_ _));exact g7),(by(repeat first|(with_reducible refine Rd.setNew ?_ (by first|exact Nat.le_refl _|(simp;done)|(simp;omega)) _)|(with_reducible refine Rd.alloc ?_ _)|(with_reducible refine Rd.drew ?_)|(with_reducible refine Rd.drewN ?_ _));exact hr7)⟩
end Go.Proofs.YtbjabpodkaokjaaGreatDoor.Sx

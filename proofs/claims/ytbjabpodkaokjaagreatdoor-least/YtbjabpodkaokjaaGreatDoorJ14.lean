import Derived.Test.YtbjabpodkaokjaaGreatDoorJ13
set_option linter.unusedVariables false
set_option linter.unusedSimpArgs false
set_option maxHeartbeats 4000000
set_option maxRecDepth 100000
namespace Go.Proofs.YtbjabpodkaokjaaGreatDoor.Sx
open Go.RowKit
def tkR (c:UInt8):List UInt8→List UInt8
 |a::t=>if a=c then t else a::t
 |[]=>[]
def tkB (c:UInt8):List UInt8→Bool
 |a::_=>a==c
 |[]=>false
theorem take_any (b:Nat) (s:ByteArray) (d x:Int) (c:UInt8) (r:List UInt8):TakC b s d x c.toNat r (tkR c r) (tkB c r):=by
 intro w h
 match r with
 |[]=>exact take_n w b s d x h _
 |a::t=>
  by_cases e:a=c
  ·subst e
   simp only[tkR,tkB,if_true,beq_self_eq_true]
   exact take_c w b s a t d x h _ rfl
  ·have e':(a==c)=false:=by simpa using e
   simp only[tkR,tkB,e,if_false,e']
   exact take_x w b s a t d x h _ (u8_int e)
theorem itm_t (b:Nat) (s:ByteArray) (d x:Int) (l:Nat) (hl:l<256) (r:List UInt8):ItmC b s d x true l r (pByteEscape l r).rest (qOf (pByteEscape l r)) (pByteEscape l r).isOk:=
 fun w hw=>(itemByte_t w b s r d x l hl hw).mono fun _ _ g=>g.q
theorem itm_f (b:Nat) (s:ByteArray) (d x:Int) (l:Nat) (hl:l<256) (r:List UInt8):ItmC b s d x false l r (pPlainItem l r).rest (qOf (pPlainItem l r)) (pPlainItem l r).isOk:=
 fun w hw=>(itemByte_f w b s r d x l hl hw).mono fun _ _ g=>g.q
theorem itm_any (b:Nat) (s:ByteArray) (d x:Int) (l:Nat) (hl:l<256) (r:List UInt8):ItmC b s d x (tkB 92 r) l (tkR 92 r) (pItemByte l r).rest (qOf (pItemByte l r)) (pItemByte l r).isOk:=by
 match r with
 |[]=>exact itm_f b s d x l hl []
 |a::t=>
  by_cases e:a=92
  ·subst e;exact itm_t b s d x l hl t
  ·have e':(a==92)=false:=by simpa using e
   have e2:pItemByte l (a::t)=pPlainItem l (a::t):=by
    unfold pItemByte
    split
    ·rename_i h;injection h with h1 h2;exact absurd h1 e
    ·rfl
   simp only[tkR,tkB,e,if_false,e',e2]
   exact itm_f b s d x l hl (a::t)
theorem pRange_no (low:Nat) (r:List UInt8) (h:tkB 45 r=false):pRange low r=.ok (inSpan low low) r∧tkR 45 r=r:=by
 match r with
 |[]=>exact⟨rfl,rfl⟩
 |a::t=>
  have e:a≠45:=by simpa [tkB] using h
  constructor
  ·unfold pRange
   split
   ·rename_i h;injection h with h1 h2;exact absurd h1 e
   ·rfl
  ·simp[tkR,e]
theorem pRange_yes (low:Nat) (r:List UInt8) (h:tkB 45 r=true):pRange low r=(match pItemByte low (tkR 45 r) with|.ok high r'=>.ok (inSpan low high) r'|.bad r'=>.bad r'):=by
 match r with
 |[]=>simp[tkB] at h
 |a::t=>
  have e:a=45:=by simpa [tkB] using h
  subst e
  rfl
theorem pItem_esc (t:List UInt8):pItem (92::t)=(match pSetEsc t with
  |.ok S r=>.ok S r
  |.bad _=>match pByteEscape 0 t with|.ok low r=>pRange low r|.bad r=>.bad r):=by
 match t with
 |[]=>rfl
 |c::t'=>
  simp only[pItem,pSetEsc]
  cases escSet c<;>rfl
theorem pItemByte_plain (l:Nat) (a:UInt8) (t:List UInt8) (e:a≠92):pItemByte l (a::t)=pPlainItem l (a::t):=by
 unfold pItemByte
 split
 ·rename_i h;injection h with h1 h2;exact absurd h1 e
 ·rfl
theorem pItem_plain (r:List UInt8) (h:tkB 92 r=false):pItem r=(match pPlainItem 0 r with|.ok low r'=>pRange low r'|.bad r'=>.bad r')∧tkR 92 r=r:=by
 match r with
 |[]=>exact⟨rfl,rfl⟩
 |a::t=>
  have e:a≠92:=by simpa [tkB] using h
  constructor
  ·unfold pItem
   split
   ·rename_i h;injection h with h1 h2;exact absurd h1 e
   ·rw[pItemByte_plain 0 a t e];cases pPlainItem 0 (a::t)<;>rfl
  ·simp[tkR,e]
theorem qOf_lt {R:Res Nat} (h:R.isOk=true) (v:Nat) (hv:qOf R v):v<256:=by
 cases R with
 |ok u r=>obtain⟨rfl,h⟩:=hv;exact h
 |bad r=>simp[Res.isOk] at h
theorem item_any (w:World) (b:Nat) (s:ByteArray) (r:List UInt8) (d x:Int) (h:St w b s r d x) :
  Calls Tryz.prog 228 #[.pointer (some ⟨b,0,none⟩)] w fun e w'=>SetRes w w' b s d x e (pItem r):=by
 have ht0:=take_any b s d x 92 r
 cases hk:tkB 92 r with
 |true=>
  obtain⟨t,rfl⟩:∃ t,r=92::t:=by
   match r,hk with
   |a::t,hk=>exact⟨t,by have:a=92:=(by simpa [tkB] using hk);rw[this]⟩
  rw[hk] at ht0
  have e0:tkR 92 (92::t)=t:=rfl
  rw[e0] at ht0
  rw[pItem_esc]
  cases hS:pSetEsc t with
  |ok S r2=>
   refine(item_A w b s (92::t) t r2 d x h (fun x0 x1 x2 x3=>Wd x0 x1 x2 x3 S) ht0 (fun w hw=>(setEscape_any w b s t d x hw).mono fun e w' g=>?_)).mono fun e w' g=>g
   rw[hS] at g;exact g
  |bad r2=>
   have hr2:r2=t:=by
    match t,hS with
    |[],hS=>injection hS with e;exact e.symm
    |c::t',hS=>
     simp only[pSetEsc] at hS
     cases hE:escSet c with
     |none=>rw[hE] at hS;injection hS with e;exact e.symm
     |some S'=>rw[hE] at hS;simp at hS
   subst hr2
   have hs1:SetC b s d x r2 r2 (fun _ _ _ _=>True) false:=fun w hw=>(setEscape_any w b s r2 d x hw).mono fun e w' g=>by
    rw[hS] at g;obtain⟨⟨x0,x1,x2,x3,g⟩,g'⟩:=g;exact⟨⟨x0,x1,x2,x3,trivial,g⟩,g'⟩
   have hi1:=itm_t b s d x 0 (by omega) r2
   simp only
   cases hB:pByteEscape 0 r2 with
   |bad r3=>
    rw[hB] at hi1
    exact(item_e0 w b s (92::r2) r2 r2 r3 d x h _ _ ht0 hs1 hi1).mono fun e w' g=>g
   |ok low r3=>
    rw[hB] at hi1
    have ht1:=take_any b s d x 45 r3
    simp only
    cases hm:tkB 45 r3 with
    |false=>
     obtain⟨p1,p2⟩:=pRange_no low r3 hm
     rw[hm,p2] at ht1
     rw[p1]
     refine(item_e1 w b s (92::r2) r2 r2 r3 r3 d x h _ (fun v hv=>qOf_lt (R:=.ok low r3) rfl v hv) _ ht0 hs1 hi1 ht1).mono fun e w' g=>?_
     obtain⟨⟨u,⟨rfl,hu⟩,g⟩,g'⟩:=g
     exact⟨g,g'⟩
    |true=>
     rw[hm] at ht1
     rw[pRange_yes low r3 hm]
     have ht2:=take_any b s d x 92 (tkR 45 r3)
     have hi2:∀ l:Nat,qOf (.ok low r3) l→ItmC b s d x (tkB 92 (tkR 45 r3)) l (tkR 92 (tkR 45 r3)) (pItemByte low (tkR 45 r3)).rest ((fun _=>qOf (pItemByte low (tkR 45 r3))) l) (pItemByte low (tkR 45 r3)).isOk:=by
      rintro l ⟨rfl,hl⟩;exact itm_any b s d x l hl _
     cases hI:pItemByte low (tkR 45 r3) with
     |bad r6=>
      rw[hI] at hi2
      exact(item_e2 w b s (92::r2) r2 r2 r3 _ _ r6 d x h _ _ _ _ ht0 hs1 hi1 ht1 ht2 hi2).mono fun e w' g=>g
     |ok high r6=>
      rw[hI] at hi2
      refine(item_e3 w b s (92::r2) r2 r2 r3 _ _ r6 d x h _ _ _ (fun v hv=>qOf_lt (R:=.ok low r3) rfl v hv) (fun v u hu=>qOf_lt (R:=.ok high r6) rfl u hu) _ ht0 hs1 hi1 ht1 ht2 hi2).mono fun e w' g=>?_
      obtain⟨⟨u,⟨rfl,hu⟩,v,⟨rfl,hv⟩,g⟩,g'⟩:=g
      exact⟨g,g'⟩
 |false=>
  obtain⟨e1,e2⟩:=pItem_plain r hk
  rw[hk,e2] at ht0
  rw[e1]
  have hi1:=itm_f b s d x 0 (by omega) r
  cases hB:pPlainItem 0 r with
  |bad r3=>
   rw[hB] at hi1
   exact(item_p0 w b s r r r3 d x h _ ht0 hi1).mono fun e w' g=>g
  |ok low r3=>
   rw[hB] at hi1
   have ht1:=take_any b s d x 45 r3
   simp only
   cases hm:tkB 45 r3 with
   |false=>
    obtain⟨p1,p2⟩:=pRange_no low r3 hm
    rw[hm,p2] at ht1
    rw[p1]
    refine(item_p1 w b s r r r3 r3 d x h _ (fun v hv=>qOf_lt (R:=.ok low r3) rfl v hv) ht0 hi1 ht1).mono fun e w' g=>?_
    obtain⟨⟨u,⟨rfl,hu⟩,g⟩,g'⟩:=g
    exact⟨g,g'⟩
   |true=>
    rw[hm] at ht1
    rw[pRange_yes low r3 hm]
    have ht2:=take_any b s d x 92 (tkR 45 r3)
    have hi2:∀ l:Nat,qOf (.ok low r3) l→ItmC b s d x (tkB 92 (tkR 45 r3)) l (tkR 92 (tkR 45 r3)) (pItemByte low (tkR 45 r3)).rest ((fun _=>qOf (pItemByte low (tkR 45 r3))) l) (pItemByte low (tkR 45 r3)).isOk:=by
     rintro l ⟨rfl,hl⟩;exact itm_any b s d x l hl _
    cases hI:pItemByte low (tkR 45 r3) with
    |bad r6=>
     rw[hI] at hi2
     exact(item_p2 w b s r r r3 _ _ r6 d x h _ _ _ ht0 hi1 ht1 ht2 hi2).mono fun e w' g=>g
    |ok high r6=>
     rw[hI] at hi2
     refine(item_p3 w b s r r r3 _ _ r6 d x h _ _ _ (fun v hv=>qOf_lt (R:=.ok low r3) rfl v hv) (fun v u hu=>qOf_lt (R:=.ok high r6) rfl u hu) ht0 hi1 ht1 ht2 hi2).mono fun e w' g=>?_
     obtain⟨⟨u,⟨rfl,hu⟩,v,⟨rfl,hv⟩,g⟩,g'⟩:=g
     exact⟨g,g'⟩
end Go.Proofs.YtbjabpodkaokjaaGreatDoor.Sx

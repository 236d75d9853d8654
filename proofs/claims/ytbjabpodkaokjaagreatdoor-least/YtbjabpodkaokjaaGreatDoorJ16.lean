import Derived.Test.YtbjabpodkaokjaaGreatDoorJ13
import Derived.Test.YtbjabpodkaokjaaGreatDoorJ14
import Derived.Test.YtbjabpodkaokjaaGreatDoorJ15
import Derived.Maps.AppendAt
set_option linter.unusedVariables false
set_option linter.unusedSimpArgs false
set_option maxHeartbeats 4000000
set_option maxRecDepth 100000
namespace Go.Proofs.YtbjabpodkaokjaaGreatDoor.Sx
theorem pHexSign_len {l v:Nat}{r r':List UInt8} (h:pHexSign l r=.ok v r'):r'.length<r.length:=by
 match r,h with
 |c::t,h=>
  simp only[pHexSign] at h
  split at h
  ·split at h
   ·simp at h
   ·injection h with _ e;subst e;simp
  ·simp at h
theorem pHexByte_len {l v:Nat}{r r':List UInt8} (h:pHexByte l r=.ok v r'):r'.length<r.length:=by
 simp only[pHexByte] at h
 split at h
 ·simp at h
 ·rename_i h1
  split at h
  ·simp at h
  ·rename_i h2
   injection h with _ e;subst e
   exact Nat.lt_trans (pHexSign_len h2) (pHexSign_len h1)
theorem pByteEscape_len {l v:Nat}{r r':List UInt8} (h:pByteEscape l r=.ok v r'):r'.length<r.length:=by
 match r,h with
 |c::t,h=>
  simp only[pByteEscape] at h
  split at h
  ·have:=pHexByte_len h;simp;omega
  ·split at h
   ·split at h
    ·simp at h
    ·injection h with _ e;subst e;simp
   ·simp at h
theorem pPlainItem_len {l v:Nat}{r r':List UInt8} (h:pPlainItem l r=.ok v r'):r'.length<r.length:=by
 match r,h with
 |c::t,h=>
  simp only[pPlainItem] at h
  split at h
  ·simp at h
  ·split at h
   ·simp at h
   ·injection h with _ e;subst e;simp
theorem pItemByte_len {l v:Nat}{r r':List UInt8} (h:pItemByte l r=.ok v r'):r'.length<r.length:=by
 unfold pItemByte at h
 split at h
 ·have:=pByteEscape_len h;simp;omega
 ·exact pPlainItem_len h
theorem pRange_len {l:Nat}{S:Nat→Bool}{r r':List UInt8} (h:pRange l r=.ok S r'):r'.length≤r.length:=by
 unfold pRange at h
 split at h
 ·split at h
  ·rename_i h1;injection h with _ e;subst e;have:=pItemByte_len h1;simp;omega
  ·simp at h
 ·injection h with _ e;subst e;exact Nat.le_refl _
theorem pItem_len {S:Nat→Bool}{r r':List UInt8} (h:pItem r=.ok S r'):r'.length<r.length:=by
 unfold pItem at h
 split at h
 ·split at h
  ·injection h with _ e;subst e;simp;omega
  ·split at h
   ·rename_i h1;have:=pByteEscape_len h1;have:=pRange_len h;simp at *;omega
   ·simp at h
 ·split at h
  ·rename_i h1;have:=pItemByte_len h1;have:=pRange_len h;omega
  ·simp at h
theorem pItems_len {n:Nat}{A S:Nat→Bool}{r r':List UInt8} (h:pItems n A r=.ok S r'):r'.length<r.length:=by
 induction n generalizing A r with
 |zero=>simp[pItems] at h
 |succ n ih=>
  simp only[pItems] at h
  split at h
  ·simp at h
  ·rename_i h1
   have:=pItem_len h1
   split at h
   ·injection h with _ e;subst e;simp at *;omega
   ·have:=ih h;omega
theorem pClass_len {S:Nat→Bool}{r r':List UInt8} (h:pClass r=.ok S r'):r'.length<r.length:=by
 unfold pClass at h
 split at h
 ·split at h
  ·rename_i h1;injection h with _ e;subst e;have:=pItems_len h1;simp;omega
  ·simp at h
 ·exact pItems_len h
theorem pEscape_len {S:Nat→Bool}{r r':List UInt8} (h:pEscape r=.ok S r'):r'.length<r.length:=by
 match r,h with
 |c::t,h=>
  simp only[pEscape] at h
  split at h
  ·injection h with _ e;subst e;simp
  ·split at h
   ·rename_i h1;injection h with _ e;subst e;exact pByteEscape_len h1
   ·simp at h
theorem pDigits_len {l v:Int}{b:Bool}{z:Int}{r r':List UInt8} (h:pDigits l v b r=.ok z r'):r'.length≤r.length:=by
 induction r generalizing v b with
 |nil=>simp only[pDigits] at h;split at h<;>simp_all
 |cons c t ih=>
  simp only[pDigits] at h
  split at h
  ·have:=ih h;simp;omega
  ·split at h
   ·injection h with _ e;subst e;exact Nat.le_refl _
   ·simp at h
theorem pBounds_len {p:Int×Int}{r r':List UInt8} (h:pBounds r=.ok p r'):r'.length≤r.length:=by
 simp only[pBounds] at h
 split at h
 ·simp at h
 ·rename_i h1
  have:=pDigits_len h1
  split at h
  ·injection h with _ e;subst e;simp at *;omega
  ·split at h
   ·simp at h
   ·rename_i h2
    have:=pDigits_len h2
    split at h
    ·injection h with _ e;subst e;simp at *;omega
    ·simp at h
  ·injection h with _ e;subst e;simp at *;omega
  ·simp at h
theorem pCounts_len {n:Nat}{cs:List Cnt}{r r':List UInt8} (h:pCounts n r=.ok cs r'):r'.length≤r.length:=by
 induction n generalizing r cs with
 |zero=>simp[pCounts] at h
 |succ n ih=>
  simp only[pCounts] at h
  split at h
  ·split at h
   ·split at h
    ·rename_i h1;injection h with _ e;subst e;have:=ih h1;simp;omega
    ·simp at h
   ·split at h
    ·split at h
     ·simp at h
     ·rename_i h1
      have:=pBounds_len h1
      split at h
      ·rename_i h2;injection h with _ e;subst e;have:=ih h2;simp;omega
      ·simp at h
    ·injection h with _ e;subst e;exact Nat.le_refl _
  ·injection h with _ e;subst e;exact Nat.le_refl _
def fin2 (tk:Bool):Res (Nat→Bool)→Res (Nat→Bool)
 |.ok S r=>.ok (if tk then fun n=>!S n else S) r
 |.bad r=>.bad r
open Go.RowKit
def leftOf (b:Nat) (s:ByteArray) (w:World):Nat:=s.size-(intOf ((w.cell? ⟨b,1,none⟩).getD undef)).toNat
theorem St.left {w:World}{b:Nat}{s:ByteArray}{r:List UInt8}{d x:Int} (h:St w b s r d x):leftOf b s w=r.length:=by
 obtain⟨⟨k,hr,hk,hs⟩,_⟩:=h
 rw[←hs,suf_len]
 simp[leftOf,hr.c1,intOf]
theorem pItems_bad {n:Nat}{A:Nat→Bool}{r r':List UInt8} (h:pItem r=.bad r'):pItems (n+1) A r=.bad r':=by simp only[pItems,h]
theorem pItems_end {n:Nat}{A S:Nat→Bool}{r r':List UInt8} (h:pItem r=.ok S r') (e:tkB 93 r'=true):pItems (n+1) A r=.ok (orS A S) (tkR 93 r'):=by
 match r',h,e with
 |[],h,e=>simp[tkB] at e
 |a::t,h,e=>
  have:a=93:=by simpa [tkB] using e
  subst this
  simp only[pItems,h];rfl
theorem pItems_go {n:Nat}{A S:Nat→Bool}{r r':List UInt8} (h:pItem r=.ok S r') (e:tkB 93 r'=false):pItems (n+1) A r=pItems n (orS A S) r'∧tkR 93 r'=r':=by
 match r',h,e with
 |[],h,e=>exact⟨by simp only[pItems,h],rfl⟩
 |a::t,h,e=>
  have ne:a≠93:=by simpa [tkB] using e
  constructor
  ·simp only[pItems,h]
   split
   ·rename_i h';injection h' with h1 _;exact absurd h1 ne
   ·rfl
  ·simp[tkR,ne]
structure ClsAt (w w':World) (b:Nat) (s:ByteArray) (d x:Int) (R0:Res (Nat→Bool)) (n:Nat) (A:Nat→Bool) (r:List UInt8):Prop where
 st:St w' b s r d x
 rd:Rd b w w'
 z:Z4 w' w.heap.size
 set:ExSet w' (w.heap.size+1) 0 A
 lt:w.heap.size+1<w'.heap.size
 hn:r.length<n
 heq:pItems n A r=R0
theorem class_true (w:World) (b:Nat) (s:ByteArray) (r r1:List UInt8) (d x:Int) (h:St w b s r d x) (ht0:TakC b s d x 94 r r1 true) (R0:Res (Nat→Bool)) (hR0:pItems (r1.length+1) (fun _=>false) r1=R0) :
  Calls Tryz.prog 219 #[.pointer (some ⟨b,0,none⟩)] w fun e w'=>SetRes w w' b s d x e (fin2 true R0):=by
 have hne:=h.ne
 have hlt:=h.lt
 go_enter Tryz.func219,Tryz.ntmps219
 go_wp2
 refine wp_scope_once 0 (fun a' w'=>(∃ n A r',ClsAt w w' b s d x R0 n A r')∧∃ u6 u7 u10 u11 u12 u13 u14 u15 u16 u17 u18 u19 u20 u21 u22 u23 u24 u25,a'={tmps:=#[.pointer (some ⟨b,0,none⟩),undef,.pointer (some ⟨w.heap.size,0,none⟩),.bool false,.pointer (some ⟨w.heap.size+1,0,none⟩),.bool true,u6,u7,.pointer (some ⟨b,0,none⟩),.bool true,u10,u11,u12,u13,u14,u15,u16,u17,u18,u19,u20,u21,u22,u23,u24,u25],defers:=[]}) (fun _ w'=>leftOf b s w') rfl ?_ ?_
 ·intro hp
  have HP:Hid _:=hp
  clear hp
  go_wp2_with (go_at_call 121;refine(ht0 _ ((h.alloc _).alloc _)).mono ?_;rintro e w1 ⟨rfl,g1,hr1⟩)
  go_step3
  refine ‹∀ a w,Code.wp _ _ _ a w→_› _ _ (HP.out _ _ ⟨⟨r1.length+1,fun _=>false,r1,⟨g1,hr1.under.under,?_,?_,?_,Nat.lt_succ_self _,hR0⟩⟩,_,_,_,_,_,_,_,_,_,_,_,_,_,_,_,_,_,_,rfl⟩)
  ·exact(new2 w).1.of_heap (hr1.block w.heap.size (by simp;omega) hne)
  ·exact(Z4.set ((new2 w).2.of_heap (hr1.block (w.heap.size+1) (by simp) (by omega))))
  ·have:=hr1.size;simp at this;omega
 ·rintro a' w' ⟨⟨n,A,r',⟨hst,hrd,hz,hset,hlt',hn,heq⟩⟩,u6,u7,u10,u11,u12,u13,u14,u15,u16,u17,u18,u19,u20,u21,u22,u23,u24,u25,rfl⟩
  have hitem:=fun w hw=>item_any w b s r' d x hw
  have HSet:Hid (ExSet w' (w.heap.size+1) 0 A):=hset
  clear hset
  obtain⟨n',rfl⟩:∃ n',n=n'+1:=⟨n-1,by omega⟩
  cases hI:pItem r' with
  |bad r2=>
   rw[hI] at hitem
   have HQ:Hid (R0=.bad r2):=by show _=_;rw[←heq,pItems_bad hI]
   clear heq hI
   go_wp2_with (go_at_call 228;refine(hitem _ hst).mono ?_;rintro e w2 ⟨⟨x0,x1,x2,x3,rfl⟩,g2,hr2⟩;have hz2:w.heap.size+1<w2.heap.size:=(by have:=hr2.size;omega);have hl2:w.heap.size<w2.heap.size:=(by omega);obtain⟨z0,z1,z2,z3,zz⟩:=hz.of_heap (w':=w2) (hr2.block w.heap.size (by omega) hne))
   simp only[Exit.jump]
   refine bodyPost_ret (v:=.tuple #[wv 0 0 0 0,.bool false]) (by simp[results,Tryz.results219,go_sem,z0,z1,z2,z3,hl2]) rfl ?_
   rw[HQ.out]
   exact⟨⟨0,0,0,0,rfl⟩,(by(repeat first|(with_reducible refine St.setCell ?_ (by first|exact hlt|(simp;done)|(simp;omega)) _)|(with_reducible refine St.alloc ?_ _)|(with_reducible refine St.drew ?_)|(with_reducible refine St.drewN ?_ _));exact g2),(by(repeat first|(with_reducible refine Rd.setNew ?_ (by first|exact Nat.le_refl _|(simp;done)|(simp;omega)) _)|(with_reducible refine Rd.alloc ?_ _)|(with_reducible refine Rd.drew ?_)|(with_reducible refine Rd.drewN ?_ _));exact hrd.trans hr2)⟩
  |ok S r2=>
   rw[hI] at hitem
   have hlen:=pItem_len hI
   have ht:=take_any b s d x 93 r2
   cases hk:tkB 93 r2 with
   |true=>
    rw[hk] at ht
    have HQ:Hid (R0=.ok (orS A S) (tkR 93 r2)):=by show _=_;rw[←heq,pItems_end hI hk]
    clear heq hI hk
    go_wp2_with (first|(go_at_call 222;refine(invert_any _ (w.heap.size+1) 0 (orS A S) HS4.out).mono ?_;rintro e w5 ⟨rfl,⟨y0,y1,y2,y3,hy⟩,hf5⟩;obtain⟨hwy,p0,p1,p2,p3,pz⟩:=hy;simp only[Nat.zero_add] at p1 p2 p3;have hl5:w.heap.size<w5.heap.size:=(by have:=hf5.size;omega);obtain⟨f0,f1,f2,f3,ff⟩:=Z4.of_heap (w':=w5) ⟨k0,k1,k2,k3,kz⟩ (hf5.block w.heap.size hl4 (by omega)))|(go_at_call 121;refine(ht _ g3).mono ?_;rintro e w4 ⟨rfl,g4,hr4⟩;have hz4:w.heap.size+1<w4.heap.size:=(by have:=hr4.size;omega);have hl4:w.heap.size<w4.heap.size:=(by omega);have Z5:=zz3.of_heap (w':=w4) (hr4.block w.heap.size hl3 hne);obtain⟨k0,k1,k2,k3,kz⟩:=Z5;have HS4:Hid (ExSet w4 (w.heap.size+1) 0 (orS A S)):=HS3.out.of_heap (hr4.block _ hz3 (by omega)))|(go_at_call 229;refine(addAll_any _ (w.heap.size+1) 0 A S x0 x1 x2 x3 hwd (by simp;omega) ((HSet.out.of_heap (hr2.block _ hlt' (by omega))).alloc hz2 _)).mono ?_;rintro e w3 ⟨rfl,hs3,hf3⟩;have HS3:Hid (ExSet w3 (w.heap.size+1) 0 (orS A S)):=hs3;clear hs3;have hz3:w.heap.size+1<w3.heap.size:=(by have:=hf3.size;simp at this;omega);have hl3:w.heap.size<w3.heap.size:=(by omega);have zz3:=Z4.of_heap (w':=w3) ⟨z0,z1,z2,z3,zz⟩ ((hf3.block _ (by simp;omega) (by omega)).trans (Below.heap_alloc _ _ _ hl2));have g3:=(g2.alloc _).four hf3 (by omega);have hr3:=((hrd.trans hr2).alloc _).four hf3 (by omega))|(go_at_call 228;refine(hitem _ hst).mono ?_;rintro e w2 ⟨⟨x0,x1,x2,x3,hwd,rfl⟩,g2,hr2⟩;have hz2:w.heap.size+1<w2.heap.size:=(by have:=hr2.size;omega);have hl2:w.heap.size<w2.heap.size:=(by omega);obtain⟨z0,z1,z2,z3,zz⟩:=hz.of_heap (w':=w2) (hr2.block w.heap.size (by omega) hne)))
    simp only[Exit.jump]
    refine bodyPost_ret (v:=.tuple #[wv y0 y1 y2 y3,.bool true]) (by simp[results,Tryz.results219,go_sem,f0,f1,f2,f3]) rfl ?_
    rw[HQ.out]
    have g5:=g4.four hf5 (by omega)
    have hr5:=(hr3.trans hr4).four hf5 (by omega)
    exact⟨⟨y0,y1,y2,y3,hwy,rfl⟩,(by(repeat first|(with_reducible refine St.setCell ?_ (by first|exact hlt|(simp;done)|(simp;omega)) _)|(with_reducible refine St.alloc ?_ _)|(with_reducible refine St.drew ?_)|(with_reducible refine St.drewN ?_ _));exact g5),(by(repeat first|(with_reducible refine Rd.setNew ?_ (by first|exact Nat.le_refl _|(simp;done)|(simp;omega)) _)|(with_reducible refine Rd.alloc ?_ _)|(with_reducible refine Rd.drew ?_)|(with_reducible refine Rd.drewN ?_ _));exact hr5)⟩
   |false=>
    obtain⟨e1,e2⟩:=pItems_go (n:=n') (A:=A) hI hk
    rw[hk,e2] at ht
    have HQ:Hid (pItems n' (orS A S) r2=R0):=by show _=_;rw[←heq,e1]
    clear heq hI hk e1 e2
    go_wp2_with (first|(go_at_call 121;refine(ht _ g3).mono ?_;rintro e w4 ⟨rfl,g4,hr4⟩;have hz4:w.heap.size+1<w4.heap.size:=(by have:=hr4.size;omega);have hl4:w.heap.size<w4.heap.size:=(by omega);have Z5:=zz3.of_heap (w':=w4) (hr4.block w.heap.size hl3 hne);obtain⟨k0,k1,k2,k3,kz⟩:=Z5;have HS4:Hid (ExSet w4 (w.heap.size+1) 0 (orS A S)):=HS3.out.of_heap (hr4.block _ hz3 (by omega)))|(go_at_call 229;refine(addAll_any _ (w.heap.size+1) 0 A S x0 x1 x2 x3 hwd (by simp;omega) ((HSet.out.of_heap (hr2.block _ hlt' (by omega))).alloc hz2 _)).mono ?_;rintro e w3 ⟨rfl,hs3,hf3⟩;have HS3:Hid (ExSet w3 (w.heap.size+1) 0 (orS A S)):=hs3;clear hs3;have hz3:w.heap.size+1<w3.heap.size:=(by have:=hf3.size;simp at this;omega);have hl3:w.heap.size<w3.heap.size:=(by omega);have zz3:=Z4.of_heap (w':=w3) ⟨z0,z1,z2,z3,zz⟩ ((hf3.block _ (by simp;omega) (by omega)).trans (Below.heap_alloc _ _ _ hl2));have g3:=(g2.alloc _).four hf3 (by omega);have hr3:=((hrd.trans hr2).alloc _).four hf3 (by omega))|(go_at_call 228;refine(hitem _ hst).mono ?_;rintro e w2 ⟨⟨x0,x1,x2,x3,hwd,rfl⟩,g2,hr2⟩;have hz2:w.heap.size+1<w2.heap.size:=(by have:=hr2.size;omega);have hl2:w.heap.size<w2.heap.size:=(by omega);obtain⟨z0,z1,z2,z3,zz⟩:=hz.of_heap (w':=w2) (hr2.block w.heap.size (by omega) hne)))
    go_step3
    refine⟨rfl,⟨⟨n',orS A S,r2,⟨g4,hr3.trans hr4,⟨k0,k1,k2,k3,kz⟩,HS4.out,hz4,by omega,HQ.out⟩⟩,_,_,_,_,_,_,_,_,_,_,_,_,_,_,_,_,_,_,rfl⟩,?_⟩
    rw[g4.left,hst.left];exact hlen
theorem class_false (w:World) (b:Nat) (s:ByteArray) (r r1:List UInt8) (d x:Int) (h:St w b s r d x) (ht0:TakC b s d x 94 r r1 false) (R0:Res (Nat→Bool)) (hR0:pItems (r1.length+1) (fun _=>false) r1=R0) :
  Calls Tryz.prog 219 #[.pointer (some ⟨b,0,none⟩)] w fun e w'=>SetRes w w' b s d x e (fin2 false R0):=by
 have hne:=h.ne
 have hlt:=h.lt
 go_enter Tryz.func219,Tryz.ntmps219
 go_wp2
 refine wp_scope_once 0 (fun a' w'=>(∃ n A r',ClsAt w w' b s d x R0 n A r')∧∃ u6 u7 u10 u11 u12 u13 u14 u15 u16 u17 u18 u19 u20 u21 u22 u23 u24 u25,a'={tmps:=#[.pointer (some ⟨b,0,none⟩),undef,.pointer (some ⟨w.heap.size,0,none⟩),.bool false,.pointer (some ⟨w.heap.size+1,0,none⟩),.bool false,u6,u7,.pointer (some ⟨b,0,none⟩),.bool false,u10,u11,u12,u13,u14,u15,u16,u17,u18,u19,u20,u21,u22,u23,u24,u25],defers:=[]}) (fun _ w'=>leftOf b s w') rfl ?_ ?_
 ·intro hp
  have HP:Hid _:=hp
  clear hp
  go_wp2_with (go_at_call 121;refine(ht0 _ ((h.alloc _).alloc _)).mono ?_;rintro e w1 ⟨rfl,g1,hr1⟩)
  go_step3
  refine ‹∀ a w,Code.wp _ _ _ a w→_› _ _ (HP.out _ _ ⟨⟨r1.length+1,fun _=>false,r1,⟨g1,hr1.under.under,?_,?_,?_,Nat.lt_succ_self _,hR0⟩⟩,_,_,_,_,_,_,_,_,_,_,_,_,_,_,_,_,_,_,rfl⟩)
  ·exact(new2 w).1.of_heap (hr1.block w.heap.size (by simp;omega) hne)
  ·exact(Z4.set ((new2 w).2.of_heap (hr1.block (w.heap.size+1) (by simp) (by omega))))
  ·have:=hr1.size;simp at this;omega
 ·rintro a' w' ⟨⟨n,A,r',⟨hst,hrd,hz,hset,hlt',hn,heq⟩⟩,u6,u7,u10,u11,u12,u13,u14,u15,u16,u17,u18,u19,u20,u21,u22,u23,u24,u25,rfl⟩
  have hitem:=fun w hw=>item_any w b s r' d x hw
  have HSet:Hid (ExSet w' (w.heap.size+1) 0 A):=hset
  clear hset
  obtain⟨n',rfl⟩:∃ n',n=n'+1:=⟨n-1,by omega⟩
  cases hI:pItem r' with
  |bad r2=>
   rw[hI] at hitem
   have HQ:Hid (R0=.bad r2):=by show _=_;rw[←heq,pItems_bad hI]
   clear heq hI
   go_wp2_with (go_at_call 228;refine(hitem _ hst).mono ?_;rintro e w2 ⟨⟨x0,x1,x2,x3,rfl⟩,g2,hr2⟩;have hz2:w.heap.size+1<w2.heap.size:=(by have:=hr2.size;omega);have hl2:w.heap.size<w2.heap.size:=(by omega);obtain⟨z0,z1,z2,z3,zz⟩:=hz.of_heap (w':=w2) (hr2.block w.heap.size (by omega) hne))
   simp only[Exit.jump]
   refine bodyPost_ret (v:=.tuple #[wv 0 0 0 0,.bool false]) (by simp[results,Tryz.results219,go_sem,z0,z1,z2,z3,hl2]) rfl ?_
   rw[HQ.out]
   exact⟨⟨0,0,0,0,rfl⟩,(by(repeat first|(with_reducible refine St.setCell ?_ (by first|exact hlt|(simp;done)|(simp;omega)) _)|(with_reducible refine St.alloc ?_ _)|(with_reducible refine St.drew ?_)|(with_reducible refine St.drewN ?_ _));exact g2),(by(repeat first|(with_reducible refine Rd.setNew ?_ (by first|exact Nat.le_refl _|(simp;done)|(simp;omega)) _)|(with_reducible refine Rd.alloc ?_ _)|(with_reducible refine Rd.drew ?_)|(with_reducible refine Rd.drewN ?_ _));exact hrd.trans hr2)⟩
  |ok S r2=>
   rw[hI] at hitem
   have hlen:=pItem_len hI
   have ht:=take_any b s d x 93 r2
   cases hk:tkB 93 r2 with
   |true=>
    rw[hk] at ht
    have HQ:Hid (R0=.ok (orS A S) (tkR 93 r2)):=by show _=_;rw[←heq,pItems_end hI hk]
    clear heq hI hk
    go_wp2_with (first|(go_at_call 121;refine(ht _ g3).mono ?_;rintro e w4 ⟨rfl,g4,hr4⟩;have hz4:w.heap.size+1<w4.heap.size:=(by have:=hr4.size;omega);have hl4:w.heap.size<w4.heap.size:=(by omega);have Z5:=zz3.of_heap (w':=w4) (hr4.block w.heap.size hl3 hne);obtain⟨k0,k1,k2,k3,kz⟩:=Z5;have HS4:Hid (ExSet w4 (w.heap.size+1) 0 (orS A S)):=HS3.out.of_heap (hr4.block _ hz3 (by omega));obtain⟨y0,y1,y2,y3,hy⟩:=HS4.out;obtain⟨hwy,p0,p1,p2,p3,pz⟩:=hy;simp only[Nat.zero_add] at p1 p2 p3)|(go_at_call 229;refine(addAll_any _ (w.heap.size+1) 0 A S x0 x1 x2 x3 hwd (by simp;omega) ((HSet.out.of_heap (hr2.block _ hlt' (by omega))).alloc hz2 _)).mono ?_;rintro e w3 ⟨rfl,hs3,hf3⟩;have HS3:Hid (ExSet w3 (w.heap.size+1) 0 (orS A S)):=hs3;clear hs3;have hz3:w.heap.size+1<w3.heap.size:=(by have:=hf3.size;simp at this;omega);have hl3:w.heap.size<w3.heap.size:=(by omega);have zz3:=Z4.of_heap (w':=w3) ⟨z0,z1,z2,z3,zz⟩ ((hf3.block _ (by simp;omega) (by omega)).trans (Below.heap_alloc _ _ _ hl2));have g3:=(g2.alloc _).four hf3 (by omega);have hr3:=((hrd.trans hr2).alloc _).four hf3 (by omega))|(go_at_call 228;refine(hitem _ hst).mono ?_;rintro e w2 ⟨⟨x0,x1,x2,x3,hwd,rfl⟩,g2,hr2⟩;have hz2:w.heap.size+1<w2.heap.size:=(by have:=hr2.size;omega);have hl2:w.heap.size<w2.heap.size:=(by omega);obtain⟨z0,z1,z2,z3,zz⟩:=hz.of_heap (w':=w2) (hr2.block w.heap.size (by omega) hne)))
    simp only[Exit.jump]
    refine bodyPost_ret (v:=.tuple #[wv y0 y1 y2 y3,.bool true]) (by simp[results,Tryz.results219,go_sem,k0,k1,k2,k3]) rfl ?_
    rw[HQ.out]
    have hr5:=hr3.trans hr4
    exact⟨⟨y0,y1,y2,y3,hwy,rfl⟩,(by(repeat first|(with_reducible refine St.setCell ?_ (by first|exact hlt|(simp;done)|(simp;omega)) _)|(with_reducible refine St.alloc ?_ _)|(with_reducible refine St.drew ?_)|(with_reducible refine St.drewN ?_ _));exact g4),(by(repeat first|(with_reducible refine Rd.setNew ?_ (by first|exact Nat.le_refl _|(simp;done)|(simp;omega)) _)|(with_reducible refine Rd.alloc ?_ _)|(with_reducible refine Rd.drew ?_)|(with_reducible refine Rd.drewN ?_ _));exact hr5)⟩
   |false=>
    obtain⟨e1,e2⟩:=pItems_go (n:=n') (A:=A) hI hk
    rw[hk,e2] at ht
    have HQ:Hid (pItems n' (orS A S) r2=R0):=by show _=_;rw[←heq,e1]
    clear heq hI hk e1 e2
    go_wp2_with (first|(go_at_call 121;refine(ht _ g3).mono ?_;rintro e w4 ⟨rfl,g4,hr4⟩;have hz4:w.heap.size+1<w4.heap.size:=(by have:=hr4.size;omega);have hl4:w.heap.size<w4.heap.size:=(by omega);have Z5:=zz3.of_heap (w':=w4) (hr4.block w.heap.size hl3 hne);obtain⟨k0,k1,k2,k3,kz⟩:=Z5;have HS4:Hid (ExSet w4 (w.heap.size+1) 0 (orS A S)):=HS3.out.of_heap (hr4.block _ hz3 (by omega)))|(go_at_call 229;refine(addAll_any _ (w.heap.size+1) 0 A S x0 x1 x2 x3 hwd (by simp;omega) ((HSet.out.of_heap (hr2.block _ hlt' (by omega))).alloc hz2 _)).mono ?_;rintro e w3 ⟨rfl,hs3,hf3⟩;have HS3:Hid (ExSet w3 (w.heap.size+1) 0 (orS A S)):=hs3;clear hs3;have hz3:w.heap.size+1<w3.heap.size:=(by have:=hf3.size;simp at this;omega);have hl3:w.heap.size<w3.heap.size:=(by omega);have zz3:=Z4.of_heap (w':=w3) ⟨z0,z1,z2,z3,zz⟩ ((hf3.block _ (by simp;omega) (by omega)).trans (Below.heap_alloc _ _ _ hl2));have g3:=(g2.alloc _).four hf3 (by omega);have hr3:=((hrd.trans hr2).alloc _).four hf3 (by omega))|(go_at_call 228;refine(hitem _ hst).mono ?_;rintro e w2 ⟨⟨x0,x1,x2,x3,hwd,rfl⟩,g2,hr2⟩;have hz2:w.heap.size+1<w2.heap.size:=(by have:=hr2.size;omega);have hl2:w.heap.size<w2.heap.size:=(by omega);obtain⟨z0,z1,z2,z3,zz⟩:=hz.of_heap (w':=w2) (hr2.block w.heap.size (by omega) hne)))
    go_step3
    refine⟨rfl,⟨⟨n',orS A S,r2,⟨g4,hr3.trans hr4,⟨k0,k1,k2,k3,kz⟩,HS4.out,hz4,by omega,HQ.out⟩⟩,_,_,_,_,_,_,_,_,_,_,_,_,_,_,_,_,_,_,rfl⟩,?_⟩
    rw[g4.left,hst.left];exact hlen
theorem class_any (w:World) (b:Nat) (s:ByteArray) (r:List UInt8) (d x:Int) (h:St w b s r d x) :
  Calls Tryz.prog 219 #[.pointer (some ⟨b,0,none⟩)] w fun e w'=>SetRes w w' b s d x e (pClass r):=by
 have ht0:=take_any b s d x 94 r
 match r,h,ht0 with
 |[],h,ht0=>exact(class_false w b s [] [] d x h ht0 _ rfl).mono fun e w' g=>g
 |a::t,h,ht0=>
  by_cases e:a=94
  ·subst e
   have e2:pClass (94::t)=fin2 true (pItems (t.length+1) (fun _=>false) t):=by
    simp only[pClass];cases pItems (t.length+1) (fun _=>false) t<;>rfl
   rw[e2]
   exact class_true w b s (94::t) t d x h ht0 _ rfl
  ·have e':(a==94)=false:=by simpa using e
   simp only[tkB,tkR,e,e',if_false] at ht0
   have e2:pClass (a::t)=fin2 false (pItems ((a::t).length+1) (fun _=>false) (a::t)):=by
    unfold pClass
    split
    ·rename_i h';injection h' with h1 _;exact absurd h1 e
    ·cases pItems ((a::t).length+1) (fun _=>false) (a::t)<;>rfl
   rw[e2]
   exact class_false w b s (a::t) (a::t) d x h ht0 _ rfl
theorem countSign_n (w:World) (b:Nat) (s:ByteArray) (d x:Int) (h:St w b s [] d x) :
  Calls Tryz.prog 223 #[.pointer (some ⟨b,0,none⟩)] w fun e w'=>e=.returned (.tuple #[.int .u8 0,.bool false])∧StTo w w' b s [] d x:=by
 go_enter Tryz.func223,Tryz.ntmps223
 go_wp2_with (go_at_call 172;refine(peek_n _ b s d x h).mono ?_;rintro e w2 ⟨rfl,h2⟩)
 go_ret2
 exact⟨rfl,h2⟩
theorem countSign_y (w:World) (b:Nat) (s:ByteArray) (c:UInt8) (t:List UInt8) (d x:Int) (h:St w b s (c::t) d x) (hc:c=42∨c=43∨c=63∨c=123) :
  Calls Tryz.prog 223 #[.pointer (some ⟨b,0,none⟩)] w fun e w'=>e=.returned (.tuple #[.int .u8 c.toNat,.bool true])∧StTo w w' b s t d x:=by
 rcases hc with rfl|rfl|rfl|rfl
 all_goals
  go_enter Tryz.func223,Tryz.ntmps223
  go_wp2_with (go_at_call 172;refine(peek_c _ b s _ t d x h).mono ?_;rintro e w2 ⟨rfl,h2,hr2⟩;obtain⟨k,hk,k1,k2,kk⟩:=h2.open)
  go_ret2
  exact⟨rfl,kk _ hr2⟩
theorem countSign_x (w:World) (b:Nat) (s:ByteArray) (c:UInt8) (t:List UInt8) (d x:Int) (h:St w b s (c::t) d x) (h1:c≠42) (h2:c≠43) (h3:c≠63) (h4:c≠123) :
  Calls Tryz.prog 223 #[.pointer (some ⟨b,0,none⟩)] w fun e w'=>e=.returned (.tuple #[.int .u8 0,.bool false])∧StTo w w' b s (c::t) d x:=by
 have n1:((c.toNat:Int)==42)=false:=by simpa using u8_int (b:=42) h1
 have n2:((c.toNat:Int)==43)=false:=by simpa using u8_int (b:=43) h2
 have n3:((c.toNat:Int)==63)=false:=by simpa using u8_int (b:=63) h3
 have n4:((c.toNat:Int)==123)=false:=by simpa using u8_int (b:=123) h4
 go_enter Tryz.func223,Tryz.ntmps223
 go_wp2_with (go_at_call 172;refine(peek_c _ b s _ t d x h).mono ?_;rintro e w2 ⟨rfl,h2⟩)
 go_ret2
 exact⟨rfl,h2⟩
theorem beginsNumber_any (value least:Int) (w:World) (v0:0≤value) (v1:value≤1000) (l0:0≤least) (l1:least≤30) :
  Calls Tryz.prog 245 #[.int .i64 value,.int .i64 least] w fun e w'=>e=.returned (.bool (beginsNum value least))∧w'=w:=by
 go_enter Tryz.func245,Tryz.ntmps245
 go_wp2
 refine wp_scope_once 0 (fun a' w'=>w'=w∧∃ lo hi:Int,((lo=value∧hi=value)∨(lo=value*10∧hi=value*10+9∧value≤30∧value<least∧value≠0)∨(lo=value*10*10∧hi=(value*10+9)*10+9∧value*10≤30∧value*10+9<least∧value<least∧value≠0))∧∃ u9 u10 u11 u12 u13 u14 u15 u16 u17 u18 u19 u20,a'={tmps:=#[.int .i64 value,.int .i64 least,undef,undef,.bool false,.int .i64 lo,.int .i64 hi,.int .i64 value,.int .i64 value,u9,u10,u11,u12,u13,u14,u15,u16,u17,u18,u19,u20],defers:=[]}) (fun a' _=>(1000000-intOf (a'.tmps.getD 5 undef)).toNat) rfl ?_ ?_
 ·intro hp
  have HP:Hid _:=hp
  clear hp
  go_wp2
  go_step3
  exact ‹∀ a w,Code.wp _ _ _ a w→_› _ _ (HP.out _ _ ⟨rfl,value,value,.inl ⟨rfl,rfl⟩,_,_,_,_,_,_,_,_,_,_,_,_,rfl⟩)
 ·rintro a' w' ⟨rfl,lo,hi,hd,u9,u10,u11,u12,u13,u14,u15,u16,u17,u18,u19,u20,rfl⟩
  rcases hd with⟨e1,e2⟩|⟨rfl,rfl,q1,q2,q3⟩|⟨rfl,rfl,q0,q1,q2,q3⟩
  ·obtain rfl:=e1.symm
   obtain rfl:=e2.symm
   by_cases p1:30<value
   ·go_wp2
    simp only[Exit.jump]
    go_ret
    exact⟨ret_bool (by simp[beginsNum,p1]),rfl⟩
   ·by_cases p2:least≤value
    ·go_wp2
     simp only[Exit.jump]
     go_ret
     exact⟨ret_bool (by simp[beginsNum,p1,p2]),rfl⟩
    ·by_cases p3:value=0
     ·have p3':(value==0)=true:=by simpa using p3
      have P3:Hid (value=0):=p3
      clear p3
      go_wp2
      simp only[Exit.jump]
      go_ret
      have:=P3.out
      exact⟨ret_bool (by simp[beginsNum,this];omega),rfl⟩
     ·have p3':(value==0)=false:=by simpa using p3
      go_wp2
      go_step3
      refine⟨rfl,⟨rfl,value*10,value*10+9,.inr (.inl ⟨rfl,rfl,by omega,by omega,p3⟩),_,_,_,_,_,_,_,_,_,_,_,_,rfl⟩,?_⟩
      simp[intOf];omega
  ·by_cases p1:30<value*10
   ·go_wp2
    simp only[Exit.jump]
    go_ret
    exact⟨ret_bool (by simp[beginsNum,p1,q3];omega),rfl⟩
   ·by_cases p2:least≤value*10+9
    ·go_wp2
     simp only[Exit.jump]
     go_ret
     exact⟨ret_bool (by simp[beginsNum,p1,p2,q3];omega),rfl⟩
    ·have p3':(value==0)=false:=by simpa using q3
     go_wp2
     go_step3
     refine⟨rfl,⟨rfl,value*10*10,(value*10+9)*10+9,.inr (.inr ⟨rfl,rfl,by omega,by omega,q2,q3⟩),_,_,_,_,_,_,_,_,_,_,_,_,rfl⟩,?_⟩
     simp[intOf];omega
  ·have p1:30<value*10*10:=by omega
   go_wp2
   simp only[Exit.jump]
   go_ret
   exact⟨ret_bool (by simp[beginsNum,q3];omega),rfl⟩
def longerR (least value:Int) (begun:Bool):List UInt8→Option Int
 |c::_=>if 48≤c.toNat∧c.toNat≤57∧¬(begun=true∧value=0)∧beginsNum (value*10+(c.toNat-48)) least=true then some (value*10+(c.toNat-48)) else none
 |[]=>none
theorem longer_any (w:World) (b:Nat) (s:ByteArray) (r:List UInt8) (d x least value:Int) (begun:Bool) (h:St w b s r d x) (v0:0≤value) (v1:value≤30) (l0:0≤least) (l1:least≤30) :
  Calls Tryz.prog 239 #[.pointer (some ⟨b,0,none⟩),.int .i64 value,.bool begun,.int .i64 least] w fun e w'=>(∃ v:Int,(∀ z,longerR least value begun r=some z→v=z)∧e=.returned (.tuple #[.int .i64 v,.bool (longerR least value begun r).isSome]))∧StTo w w' b s r d x:=by
 match r with
 |[]=>
  go_enter Tryz.func239,Tryz.ntmps239
  go_wp2_with (go_at_call 172;refine(peek_n _ b s d x h).mono ?_;rintro e w2 ⟨rfl,h2⟩)
  go_ret2
  exact⟨⟨0,fun z hz=>by simp[longerR] at hz,rfl⟩,h2⟩
 |c::t=>
  by_cases hd:48≤c.toNat∧c.toNat≤57
  ·obtain⟨hd1,hd2⟩:=hd
   have hd1':¬(c.toNat:Int)<48:=by omega
   have hd2':¬ 57<(c.toNat:Int):=by omega
   by_cases hb:begun=true∧value=0
   ·have HL:Hid (longerR least value begun (c::t)=none):=by show _=_;simp only[longerR,hb];simp
    obtain⟨rfl,rfl⟩:=hb
    go_enter Tryz.func239,Tryz.ntmps239
    go_wp2_with (go_at_call 172;refine(peek_c _ b s c t d x h).mono ?_;rintro e w2 ⟨rfl,h2⟩)
    go_ret2
    rw[HL.out]
    exact⟨⟨0,fun z hz=>by simp at hz,rfl⟩,h2⟩
   ·have hbn:=fun w=>beginsNumber_any (value*10+((c.toNat:Int)-48)) least w (by omega) (by omega) l0 l1
    obtain⟨B,hB⟩:∃ B,B=beginsNum (value*10+((c.toNat:Int)-48)) least:=⟨_,rfl⟩
    rw[←hB] at hbn
    have HL:Hid (longerR least value begun (c::t)=if B=true then some (value*10+((c.toNat:Int)-48)) else none):=by
     show _=_
     simp only[longerR,hd1,hd2,←hB]
     by_cases hBt:B=true
     ·rw[if_pos ⟨trivial,trivial,hb,hBt⟩,if_pos hBt]
     ·rw[if_neg (fun q=>hBt q.2.2.2),if_neg hBt]
    clear hB
    cases begun with
    |false=>
     clear hb
     go_enter Tryz.func239,Tryz.ntmps239
     go_wp2_with (first|(go_at_call 245;refine(hbn _).mono ?_;rintro e w3 ⟨rfl,hw⟩;obtain rfl:=hw.symm)|(go_at_call 172;refine(peek_c _ b s c t d x h).mono ?_;rintro e w2 ⟨rfl,h2⟩))
     go_ret2
     rw[HL.out]
     cases B with
     |true=>exact⟨⟨_,fun z hz=>by simpa using hz,rfl⟩,h2⟩
     |false=>exact⟨⟨_,fun z hz=>by simp at hz,rfl⟩,h2⟩
    |true=>
     have hv:(value==0)=false:=by simpa using hb
     clear hb
     go_enter Tryz.func239,Tryz.ntmps239
     go_wp2_with (first|(go_at_call 245;refine(hbn _).mono ?_;rintro e w3 ⟨rfl,hw⟩;obtain rfl:=hw.symm)|(go_at_call 172;refine(peek_c _ b s c t d x h).mono ?_;rintro e w2 ⟨rfl,h2⟩))
     go_ret2
     rw[HL.out]
     cases B with
     |true=>exact⟨⟨_,fun z hz=>by simpa using hz,rfl⟩,h2⟩
     |false=>exact⟨⟨_,fun z hz=>by simp at hz,rfl⟩,h2⟩
  ·have HL:Hid (longerR least value begun (c::t)=none):=by
    show _=_
    simp only[longerR]
    rw[if_neg (fun q=>hd ⟨q.1,q.2.1⟩)]
   by_cases h48:c.toNat<48
   ·have h48':(c.toNat:Int)<48:=by omega
    go_enter Tryz.func239,Tryz.ntmps239
    go_wp2_with (go_at_call 172;refine(peek_c _ b s c t d x h).mono ?_;rintro e w2 ⟨rfl,h2⟩)
    go_ret2
    rw[HL.out]
    exact⟨⟨0,fun z hz=>by simp at hz,rfl⟩,h2⟩
   ·have h48':¬(c.toNat:Int)<48:=by omega
    have h57':57<(c.toNat:Int):=by omega
    go_enter Tryz.func239,Tryz.ntmps239
    go_wp2_with (go_at_call 172;refine(peek_c _ b s c t d x h).mono ?_;rintro e w2 ⟨rfl,h2⟩)
    go_ret2
    rw[HL.out]
    exact⟨⟨0,fun z hz=>by simp at hz,rfl⟩,h2⟩
def NumRes (w w':World) (b:Nat) (s:ByteArray) (d x:Int) (e:Ending):Res Int→Prop
 |.ok v r=>e=.returned (.tuple #[.int .i64 v,.bool true])∧0≤v∧v≤30∧StTo w w' b s r d x
 |.bad r=>(∃ v:Int,e=.returned (.tuple #[.int .i64 v,.bool false]))∧StTo w w' b s r d x
theorem pDigits_go {least value z:Int}{begun:Bool}{r:List UInt8} (h:longerR least value begun r=some z):∃ c t,r=c::t∧pDigits least value begun r=pDigits least z true t∧(0≤value→0≤z)∧z≤30:=by
 match r,h with
 |c::t,h=>
  simp only[longerR] at h
  split at h
  ·rename_i q
   injection h with e
   refine⟨c,t,rfl,?_,?_,?_⟩
   ·rw[pDigits,if_pos q,e]
   ·intro hv;have:=q.1;omega
   ·have:=q.2.2.2
    rw[e] at this
    unfold beginsNum at this
    split at this
    ·simp at this
    ·omega
  ·simp at h
theorem pDigits_end {least value:Int}{begun:Bool}{r:List UInt8} (h:longerR least value begun r=none):pDigits least value begun r=if begun=true∧least≤value then .ok value r else .bad r:=by
 match r,h with
 |[],h=>rfl
 |c::t,h=>
  simp only[longerR] at h
  split at h
  ·simp at h
  ·rename_i q
   rw[pDigits,if_neg q]
structure NumAt (w w':World) (b:Nat) (s:ByteArray) (d x least:Int) (R0:Res Int) (value:Int) (begun:Bool) (r:List UInt8):Prop where
 st:St w' b s r d x
 rd:Rd b w w'
 v0:0≤value
 v1:value≤30
 heq:pDigits least value begun r=R0
theorem number_any (w:World) (b:Nat) (s:ByteArray) (r:List UInt8) (d x least:Int) (h:St w b s r d x) (l0:0≤least) (l1:least≤30) :
  Calls Tryz.prog 232 #[.pointer (some ⟨b,0,none⟩),.int .i64 least] w fun e w'=>NumRes w w' b s d x e (pDigits least 0 false r):=by
 obtain⟨R0,hR0⟩:∃ R0,pDigits least 0 false r=R0:=⟨_,rfl⟩
 rw[hR0]
 go_enter Tryz.func232,Tryz.ntmps232
 go_wp2
 refine wp_scope_once 0 (fun a' w'=>∃ value begun r',NumAt w w' b s d x least R0 value begun r'∧∃ u8 u9 u10 u11 u12 u13 u14 u15 u16 u17 u18 u19 u20 u21 u22 u23 u24 u25 u26 u27 u28 u29 u30 u31 u32 u33 u34,a'={tmps:=#[.pointer (some ⟨b,0,none⟩),.int .i64 least,undef,undef,.int .i64 0,.bool false,.int .i64 value,.bool begun,u8,u9,u10,u11,u12,u13,u14,u15,u16,u17,u18,u19,u20,u21,u22,u23,u24,u25,u26,u27,u28,u29,u30,u31,u32,u33,u34],defers:=[]}) (fun _ w'=>leftOf b s w') rfl ?_ ?_
 ·intro hp
  have HP:Hid _:=hp
  clear hp
  go_wp2
  go_step3
  exact ‹∀ a w,Code.wp _ _ _ a w→_› _ _ (HP.out _ _ ⟨0,false,r,⟨h,Rd.refl _ _,by omega,by omega,hR0⟩,_,_,_,_,_,_,_,_,_,_,_,_,_,_,_,_,_,_,_,_,_,_,_,_,_,_,_,rfl⟩)
 ·rintro a' w' ⟨value,begun,r',⟨hst,hrd,v0,v1,heq⟩,u8,u9,u10,u11,u12,u13,u14,u15,u16,u17,u18,u19,u20,u21,u22,u23,u24,u25,u26,u27,u28,u29,u30,u31,u32,u33,u34,rfl⟩
  have hlg:=fun w hw=>longer_any w b s r' d x least value begun hw v0 v1 l0 l1
  cases hL:longerR least value begun r' with
  |none=>
   rw[hL] at hlg
   have HQ:Hid (R0=if begun=true∧least≤value then .ok value r' else .bad r'):=by show _=_;rw[←heq,pDigits_end hL]
   clear heq hL
   cases begun with
   |false=>
    go_wp2_with (go_at_call 239;refine(hlg _ hst).mono ?_;rintro e w2 ⟨⟨v,-,rfl⟩,g2,hr2⟩)
    simp only[Exit.jump]
    go_ret2
    rw[HQ.out,if_neg (by simp)]
    exact⟨⟨_,rfl⟩,g2,hrd.trans hr2⟩
   |true=>
    by_cases hle:least≤value
    ·go_wp2_with (go_at_call 239;refine(hlg _ hst).mono ?_;rintro e w2 ⟨⟨v,-,rfl⟩,g2,hr2⟩)
     simp only[Exit.jump]
     go_ret2
     rw[HQ.out,if_pos (by simp;omega)]
     exact⟨by simp[hle],v0,v1,g2,hrd.trans hr2⟩
    ·go_wp2_with (go_at_call 239;refine(hlg _ hst).mono ?_;rintro e w2 ⟨⟨v,-,rfl⟩,g2,hr2⟩)
     simp only[Exit.jump]
     go_ret2
     rw[HQ.out,if_neg (by simp;omega)]
     exact⟨⟨value,by simp;omega⟩,g2,hrd.trans hr2⟩
  |some z=>
   rw[hL] at hlg
   obtain⟨c,t,rfl,e1,e2,e3⟩:=pDigits_go hL
   have HQ:Hid (pDigits least z true t=R0):=by show _=_;rw[←heq,e1]
   clear heq hL e1
   go_wp2_with (go_at_call 239;refine(hlg _ hst).mono ?_;rintro e w2 ⟨⟨v,hv,rfl⟩,g2,hr2⟩;obtain rfl:=(hv z rfl).symm;obtain⟨k,hk,k1,k2,kk⟩:=g2.open)
   go_step3
   have g:=kk w (hrd.trans hr2)
   refine⟨rfl,⟨z,true,t,⟨g.1,g.2,e2 v0,e3,HQ.out⟩,_,_,_,_,_,_,_,_,_,_,_,_,_,_,_,_,_,_,_,_,_,_,_,_,_,_,_,rfl⟩,?_⟩
   rw[g.1.left,hst.left];simp
abbrev NumC (b:Nat) (s:ByteArray) (d x:Int) (l:Int) (r r':List UInt8) (Q:Int→Prop) (ok:Bool):Prop:=
 ∀ w,St w b s r d x→Calls Tryz.prog 232 #[.pointer (some ⟨b,0,none⟩),.int .i64 l] w fun e w'=>∃ v:Int,Q v∧e=.returned (.tuple #[.int .i64 v,.bool ok])∧StTo w w' b s r' d x
def qNum:Res Int→Int→Prop
 |.ok v _=>fun u=>u=v∧0≤v∧v≤30
 |.bad _=>fun _=>True
theorem NumRes.q {w w':World}{b:Nat}{s:ByteArray}{d x:Int}{e:Ending}{R:Res Int} (g:NumRes w w' b s d x e R):∃ v:Int,qNum R v∧e=.returned (.tuple #[.int .i64 v,.bool R.isOk])∧StTo w w' b s R.rest d x:=by
 cases R with
 |ok v r=>exact⟨v,⟨rfl,g.2.1,g.2.2.1⟩,g.1,g.2.2.2⟩
 |bad r=>obtain⟨⟨v,g1⟩,g2⟩:=g;exact⟨v,trivial,g1,g2⟩
theorem num_any (b:Nat) (s:ByteArray) (d x l:Int) (r:List UInt8) (l0:0≤l) (l1:l≤30):NumC b s d x l r (pDigits l 0 false r).rest (qNum (pDigits l 0 false r)) (pDigits l 0 false r).isOk:=
 fun w hw=>(number_any w b s r d x l hw l0 l1).mono fun _ _ g=>g.q
theorem bounds_0 (w:World) (b:Nat) (s:ByteArray) (r r1:List UInt8) (d x:Int) (h:St w b s r d x) (Q:Int→Prop) (hn1:NumC b s d x 0 r r1 Q false) :
  Calls Tryz.prog 224 #[.pointer (some ⟨b,0,none⟩)] w fun e w'=>e=.returned (.tuple #[.int .i64 0,.int .i64 0,.bool false])∧StTo w w' b s r1 d x:=by
 go_enter Tryz.func224,Tryz.ntmps224
 go_wp2_with (first|(go_at_call 232;refine(hn1 _ h).mono ?_;rintro e w1 ⟨v,hv,rfl,g1,hr1⟩))
 go_ret3
 exact⟨rfl,g1,hr1⟩
theorem bounds_1 (w:World) (b:Nat) (s:ByteArray) (r r1 r2 r3:List UInt8) (d x:Int) (h:St w b s r d x) (Q:Int→Prop) (tk:Bool) (hn1:NumC b s d x 0 r r1 Q true) (ht1:TakC b s d x 44 r1 r2 false) (ht2:TakC b s d x 125 r2 r3 tk) :
  Calls Tryz.prog 224 #[.pointer (some ⟨b,0,none⟩)] w fun e w'=>(∃ v,Q v∧e=.returned (.tuple #[.int .i64 v,.int .i64 v,.bool tk]))∧StTo w w' b s r3 d x:=by
 go_enter Tryz.func224,Tryz.ntmps224
 go_wp2_with (first|(go_at_call 121;refine(ht2 _ g2).mono ?_;rintro e w3 ⟨rfl,g3,hr3⟩)|(go_at_call 121;refine(ht1 _ g1).mono ?_;rintro e w2 ⟨rfl,g2,hr2⟩)|(go_at_call 232;refine(hn1 _ h).mono ?_;rintro e w1 ⟨v,hv,rfl,g1,hr1⟩))
 go_ret3
 exact⟨⟨v,hv,rfl⟩,g3,(hr1.trans hr2).trans hr3⟩
theorem bounds_2 (w:World) (b:Nat) (s:ByteArray) (r r1 r2 r3:List UInt8) (d x:Int) (h:St w b s r d x) (Q:Int→Prop) (hn1:NumC b s d x 0 r r1 Q true) (ht1:TakC b s d x 44 r1 r2 true) (ht2:TakC b s d x 125 r2 r3 true) :
  Calls Tryz.prog 224 #[.pointer (some ⟨b,0,none⟩)] w fun e w'=>(∃ v,Q v∧e=.returned (.tuple #[.int .i64 v,.int .i64 (-1),.bool true]))∧StTo w w' b s r3 d x:=by
 go_enter Tryz.func224,Tryz.ntmps224
 go_wp2_with (first|(go_at_call 121;refine(ht2 _ g2).mono ?_;rintro e w3 ⟨rfl,g3,hr3⟩)|(go_at_call 121;refine(ht1 _ g1).mono ?_;rintro e w2 ⟨rfl,g2,hr2⟩)|(go_at_call 232;refine(hn1 _ h).mono ?_;rintro e w1 ⟨v,hv,rfl,g1,hr1⟩))
 go_ret3
 exact⟨⟨v,hv,rfl⟩,g3,(hr1.trans hr2).trans hr3⟩
theorem bounds_3 (w:World) (b:Nat) (s:ByteArray) (r r1 r2 r3 r4:List UInt8) (d x:Int) (h:St w b s r d x) (Q:Int→Prop) (Q2:Int→Int→Prop) (hn1:NumC b s d x 0 r r1 Q true) (ht1:TakC b s d x 44 r1 r2 true) (ht2:TakC b s d x 125 r2 r3 false) (hn2:∀ v,Q v→NumC b s d x v r3 r4 (Q2 v) false) :
  Calls Tryz.prog 224 #[.pointer (some ⟨b,0,none⟩)] w fun e w'=>(∃ v u:Int,e=.returned (.tuple #[.int .i64 v,.int .i64 u,.bool false]))∧StTo w w' b s r4 d x:=by
 go_enter Tryz.func224,Tryz.ntmps224
 go_wp2_with (first|(go_at_call 232;refine(hn2 v hv _ g3).mono ?_;rintro e w4 ⟨u,hu,rfl,g4,hr4⟩)|(go_at_call 121;refine(ht2 _ g2).mono ?_;rintro e w3 ⟨rfl,g3,hr3⟩)|(go_at_call 121;refine(ht1 _ g1).mono ?_;rintro e w2 ⟨rfl,g2,hr2⟩)|(go_at_call 232;refine(hn1 _ h).mono ?_;rintro e w1 ⟨v,hv,rfl,g1,hr1⟩))
 go_ret3
 exact⟨⟨v,u,rfl⟩,g4,((hr1.trans hr2).trans hr3).trans hr4⟩
theorem bounds_4 (w:World) (b:Nat) (s:ByteArray) (r r1 r2 r3 r4 r5:List UInt8) (d x:Int) (h:St w b s r d x) (Q:Int→Prop) (Q2:Int→Int→Prop) (tk:Bool) (hn1:NumC b s d x 0 r r1 Q true) (ht1:TakC b s d x 44 r1 r2 true) (ht2:TakC b s d x 125 r2 r3 false) (hn2:∀ v,Q v→NumC b s d x v r3 r4 (Q2 v) true) (ht3:TakC b s d x 125 r4 r5 tk) :
  Calls Tryz.prog 224 #[.pointer (some ⟨b,0,none⟩)] w fun e w'=>(∃ v u:Int,Q v∧Q2 v u∧e=.returned (.tuple #[.int .i64 v,.int .i64 u,.bool tk]))∧StTo w w' b s r5 d x:=by
 go_enter Tryz.func224,Tryz.ntmps224
 go_wp2_with (first|(go_at_call 121;refine(ht3 _ g4).mono ?_;rintro e w5 ⟨rfl,g5,hr5⟩)|(go_at_call 232;refine(hn2 v hv _ g3).mono ?_;rintro e w4 ⟨u,hu,rfl,g4,hr4⟩)|(go_at_call 121;refine(ht2 _ g2).mono ?_;rintro e w3 ⟨rfl,g3,hr3⟩)|(go_at_call 121;refine(ht1 _ g1).mono ?_;rintro e w2 ⟨rfl,g2,hr2⟩)|(go_at_call 232;refine(hn1 _ h).mono ?_;rintro e w1 ⟨v,hv,rfl,g1,hr1⟩))
 go_ret3
 exact⟨⟨v,u,hv,hu,rfl⟩,g5,(((hr1.trans hr2).trans hr3).trans hr4).trans hr5⟩
def BndRes (w w':World) (b:Nat) (s:ByteArray) (d x:Int) (e:Ending):Res (Int×Int)→Prop
 |.ok p r=>e=.returned (.tuple #[.int .i64 p.1,.int .i64 p.2,.bool true])∧(0≤p.1∧p.1≤30∧-1≤p.2∧p.2≤30)∧StTo w w' b s r d x
 |.bad r=>(∃ u v:Int,e=.returned (.tuple #[.int .i64 u,.int .i64 v,.bool false]))∧StTo w w' b s r d x
theorem bounds_any (w:World) (b:Nat) (s:ByteArray) (r:List UInt8) (d x:Int) (h:St w b s r d x) :
  Calls Tryz.prog 224 #[.pointer (some ⟨b,0,none⟩)] w fun e w'=>BndRes w w' b s d x e (pBounds r):=by
 have hn1:=num_any b s d x 0 r (by omega) (by omega)
 obtain⟨R,hR⟩:∃ R,R=pBounds r:=⟨_,rfl⟩
 rw[←hR]
 unfold pBounds at hR
 cases hD:pDigits 0 0 false r with
 |bad r1=>
  rw[hD] at hn1 hR
  simp only at hR
  subst hR
  exact(bounds_0 w b s r r1 d x h _ hn1).mono fun e w' g=>⟨⟨_,_,g.1⟩,g.2⟩
 |ok least r1=>
  rw[hD] at hn1 hR
  have ht1:=take_any b s d x 44 r1
  simp only at hR
  cases h1:tkB 44 r1 with
  |false=>
   have e1:tkR 44 r1=r1:=by
    match r1,h1 with
    |[],_=>rfl
    |a::t,h1=>simp only[tkB,beq_eq_false_iff_ne] at h1;simp[tkR,h1]
   rw[h1,e1] at ht1
   have ht2:=take_any b s d x 125 r1
   refine(bounds_1 w b s r r1 r1 _ d x h _ _ hn1 ht1 ht2).mono fun e w' g=>?_
   obtain⟨⟨v,⟨rfl,hv⟩,rfl⟩,g⟩:=g
   match r1,h1,g with
   |[],_,g=>simp only at hR;subst hR;exact⟨⟨_,_,rfl⟩,g⟩
   |a::t,h1,g=>
    have ne:a≠44:=by simpa [tkB] using h1
    by_cases e:a=125
    ·subst e
     simp only at hR;subst hR
     exact⟨rfl,⟨hv.1,hv.2,by simp;omega,hv.2⟩,g⟩
    ·have e':(a==125)=false:=by simpa using e
     simp only[tkB,tkR,e,e',if_false] at g ⊢
     split at hR
     ·rename_i h';injection h' with h1 _;exact absurd h1 ne
     ·rename_i h';injection h' with h1 _;exact absurd h1 ne
     ·rename_i h';injection h' with h1 _;exact absurd h1 e
     ·subst hR;exact⟨⟨_,_,rfl⟩,g⟩
  |true=>
   obtain⟨t1,rfl⟩:∃ t,r1=44::t:=by
    match r1,h1 with
    |a::t,hk=>exact⟨t,by have:a=44:=(by simpa [tkB] using hk);rw[this]⟩
   rw[h1] at ht1
   have e0:tkR 44 (44::t1)=t1:=rfl
   rw[e0] at ht1
   have ht2:=take_any b s d x 125 t1
   cases h2:tkB 125 t1 with
   |true=>
    obtain⟨t2,rfl⟩:∃ t,t1=125::t:=by
     match t1,h2 with
     |a::t,hk=>exact⟨t,by have:a=125:=(by simpa [tkB] using hk);rw[this]⟩
    rw[h2] at ht2
    simp only at hR;subst hR
    refine(bounds_2 w b s r _ _ _ d x h _ hn1 ht1 ht2).mono fun e w' g=>?_
    obtain⟨⟨v,⟨rfl,hv⟩,rfl⟩,g⟩:=g
    exact⟨rfl,⟨hv.1,hv.2,by simp,by simp⟩,g⟩
   |false=>
    have e2:tkR 125 t1=t1:=by
     match t1,h2 with
     |[],_=>rfl
     |a::t,h1=>simp only[tkB,beq_eq_false_iff_ne] at h1;simp[tkR,h1]
    rw[h2,e2] at ht2
    have hn2:∀ v,qNum (.ok least (44::t1)) v→NumC b s d x v t1 (pDigits least 0 false t1).rest ((fun _=>qNum (pDigits least 0 false t1)) v) (pDigits least 0 false t1).isOk:=by
     rintro v ⟨rfl,hv⟩;exact num_any b s d x v t1 hv.1 hv.2
    have hmid:R=(match pDigits least 0 false t1 with
       |.bad r''=>.bad r''
       |.ok most r''=>match r'' with
        |125::t'=>.ok (least,most) t'
        |_=>.bad r''):=by
     rw[hR]
     match t1,h2 with
     |[],_=>rfl
     |a::t,h2=>
      have ne:a≠125:=by simpa [tkB] using h2
      split
      ·rename_i h';injection h' with _ h';injection h' with h1 _;exact absurd h1 ne
      ·rename_i h';injection h' with _ h';subst h';rfl
      ·rename_i h';injection h' with h1 _;simp at h1
      ·rename_i h1 h2 h3;exact absurd rfl (h2 _)
    clear hR
    subst hmid
    cases hD2:pDigits least 0 false t1 with
    |bad r4=>
     rw[hD2] at hn2
     exact(bounds_3 w b s r _ _ _ r4 d x h _ _ hn1 ht1 ht2 hn2).mono fun e w' g=>g
    |ok most r4=>
     rw[hD2] at hn2
     have ht3:=take_any b s d x 125 r4
     refine(bounds_4 w b s r _ _ _ r4 _ d x h _ _ _ hn1 ht1 ht2 hn2 ht3).mono fun e w' g=>?_
     obtain⟨⟨v,u,⟨rfl,hv⟩,⟨rfl,hu⟩,rfl⟩,g⟩:=g
     match r4,g with
     |[],g=>exact⟨⟨_,_,rfl⟩,g⟩
     |a::t,g=>
      by_cases e:a=125
      ·subst e
       exact⟨rfl,⟨hv.1,hv.2,by simp;omega,hu.2⟩,g⟩
      ·have e':(a==125)=false:=by simpa using e
       simp only[tkB,tkR,e,e',if_false] at g ⊢
       split
       ·rename_i h';injection h' with h1 _;exact absurd h1 e
       ·exact⟨⟨_,_,rfl⟩,g⟩
theorem ownsRow_rd {w w':World}{base:Nat}{e:TypeId}{size:Nat}{v:Value}{n:Nat}{xs:List Value}{b:Nat} (h:w.ownsRow base e size v n xs) (hr:Rd b w w') (hb:b<base):w'.ownsRow base e size v n xs:=by
 obtain⟨h1,h2⟩:=h
 refine⟨h1,?_⟩
 rcases h2 with h2|⟨g,cap,cur,hv,hg,hh,r⟩
 ·exact .inl h2
 ·have hlt:g<w.heap.size:=by
   rcases Nat.lt_or_ge g w.heap.size with q|q
   ·exact q
   ·simp[Array.getElem?_eq_none q] at hh
  exact .inr ⟨g,cap,cur,hv,hg,(hr.block g hlt (by omega)).trans hh,r⟩
theorem Rd.grown {b:Nat}{x w w':World}{row:Option Nat} (h:Rd b x w) (hg:w.grownBy w' row) (hr:∀ k,row=some k→x.heap.size≤k):Rd b x w':=
 ⟨hg.os.trans h.os,hg.tape.trans h.tape,hg.output.trans h.output,Nat.le_trans h.size hg.size,fun k hk hb=>(hg.block k (Nat.lt_of_lt_of_le hk h.size) (fun e=>by have:=hr k e.symm;omega)).trans (h.block k hk hb)⟩
theorem St.grown {w w':World}{b:Nat}{s:ByteArray}{r:List UInt8}{d x:Int}{row:Option Nat} (h:St w b s r d x) (hg:w.grownBy w' row) (hr:∀ k,row=some k→b<k):St w' b s r d x:=
 h.keep (fun k hk=>hg.block k (Nat.lt_of_le_of_lt hk h.lt) (fun e=>by have:=hr k e.symm;omega)) hg.size
theorem cell_kept {w w3:World}{cs:Array Value}{T:TypeId} (h:w3.heap[w.heap.size]?=(w.alloc (.cells cs T)).heap[w.heap.size]?) (o:Nat):w3.cell? ⟨w.heap.size,o,none⟩=cs[o]?:=by
 rw[heap_alloc_new] at h
 simp[World.cell?,h]
theorem frozen_kept {w w3:World}{cs:Array Value}{T:TypeId} (h:w3.heap[w.heap.size]?=(w.alloc (.cells cs T)).heap[w.heap.size]?) (o:Nat):w3.frozen? ⟨w.heap.size,o,none⟩=false:=by
 rw[heap_alloc_new] at h
 simp[World.frozen?,h]
def cntCells (c:Cnt):List Value:=[.int .u8 c.sign.toNat,.int .i64 c.least,.int .i64 c.most]
abbrev CntRep (w:World) (base:Nat) (v:Value) (cs:List Cnt):Prop:=w.ownsRow base 282 3 v cs.length (cs.flatMap cntCells)
theorem Tryz.infoCnt:(Tryz.prog.info? 282).map (fun i=>(i.zero,i.size,i.bytes))=some (some (.agg #[.int .u8 0,.int .i64 0,.int .i64 0]),3,24):=by kernel_rfl
def preC (acc:List Cnt):Res (List Cnt)→Res (List Cnt)
 |.ok cs r=>.ok (acc++cs) r
 |.bad r=>.bad r
def CntRes (w w':World) (b:Nat) (s:ByteArray) (d x:Int) (e:Ending):Res (List Cnt)→Prop
 |.ok cs r=>(∃ v,CntRep w' w.heap.size v cs∧e=.returned (.tuple #[v,.bool true]))∧StTo w w' b s r d x
 |.bad r=>e=.returned (.tuple #[.slice none 0 0,.bool false])∧StTo w w' b s r d x
structure CntAt (w w':World) (b:Nat) (s:ByteArray) (d x:Int) (R0:Res (List Cnt)) (n:Nat) (acc:List Cnt) (v:Value) (r:List UInt8):Prop where
 st:St w' b s r d x
 rd:Rd b w w'
 own:CntRep w' w.heap.size v acc
 len:acc.length+r.length≤200
 hn:r.length<n
 heq:preC acc (pCounts n r)=R0
theorem counts_any (w:World) (b:Nat) (s:ByteArray) (r:List UInt8) (d x:Int) (h:St w b s r d x) (R0:Res (List Cnt)) (hR0:pCounts (r.length+1) r=R0) :
  Calls Tryz.prog 209 #[.pointer (some ⟨b,0,none⟩)] w fun e w'=>CntRes w w' b s d x e R0:=by
 have hne:=h.ne
 have hlt:=h.lt
 obtain⟨i0,hi,hz0,hz1,hz2⟩:=info_parts Tryz.infoCnt
 go_enter Tryz.func209,Tryz.ntmps209
 go_wp2
 refine wp_scope_once 0 (fun a' w'=>∃ n acc v r',CntAt w w' b s d x R0 n acc v r'∧∃ u5 u6 u7 u8 u9 u10 u11 u12 u13 u14 u15 u16 u17 u18 u19 u20 u21 u22 u23 u24 u25 u26 u27 u28 u29 u30 u31 u32 u33,a'={tmps:=#[.pointer (some ⟨b,0,none⟩),undef,.slice none 0 0,.bool false,v,u5,u6,u7,u8,u9,u10,u11,u12,u13,u14,u15,u16,u17,u18,u19,u20,u21,u22,u23,u24,u25,u26,u27,u28,u29,u30,u31,u32,u33],defers:=[]}) (fun _ w'=>leftOf b s w') rfl ?_ ?_
 ·intro hp
  have HP:Hid _:=hp
  clear hp
  go_wp2
  go_step3
  refine ‹∀ a w,Code.wp _ _ _ a w→_› _ _ (HP.out _ _ ⟨r.length+1,[],.slice none 0 0,r,⟨h,Rd.refl _ _,World.ownsRow_nil _ _ _ _,?_,Nat.lt_succ_self _,?_⟩,_,_,_,_,_,_,_,_,_,_,_,_,_,_,_,_,_,_,_,_,_,_,_,_,_,_,_,_,_,rfl⟩)
  ·have:=h.len;simpa using this
  ·rw[hR0];cases R0<;>rfl
 ·rintro a' w' ⟨n,acc,v,r',⟨hst,hrd,hown,hlen,hn,heq⟩,u5,u6,u7,u8,u9,u10,u11,u12,u13,u14,u15,u16,u17,u18,u19,u20,u21,u22,u23,u24,u25,u26,u27,u28,u29,u30,u31,u32,u33,rfl⟩
  obtain⟨n',rfl⟩:∃ n',n=n'+1:=⟨n-1,by omega⟩
  have HO:Hid (CntRep w' w.heap.size v acc):=hown
  clear hown
  match r',hst,hlen,hn,heq with
  |[],hst,hlen,hn,heq=>
   have HQ:Hid (R0=.ok acc []):=by show _=_;rw[←heq];simp[pCounts,preC]
   clear heq
   go_wp2_with (go_at_call 223;refine(countSign_n _ b s d x hst).mono ?_;rintro e w2 ⟨rfl,g2,hr2⟩)
   simp only[Exit.jump]
   go_ret2
   rw[HQ.out]
   exact⟨⟨v,ownsRow_rd HO.out hr2 hlt,rfl⟩,g2,hrd.trans hr2⟩
  |c::t,hst,hlen,hn,heq=>
   by_cases hc:c=42∨c=43∨c=63
   ·have hcs:c=42∨c=43∨c=63∨c=123:=by rcases hc with q|q|q<;>simp[q]
    have HQ:Hid (preC (acc++[⟨c,0,0⟩]) (pCounts n' t)=R0):=by
     show _=_
     rw[←heq]
     simp only[pCounts,hc,if_true]
     cases pCounts n' t<;>simp[preC]
    have hb123:((c.toNat:Int)==123)=false:=by rcases hc with q|q|q<;>subst q<;>rfl
    clear heq hc
    have hsg:=fun w hw=>countSign_y w b s c t d x hw hcs
    clear hcs
    go_wp2_with (first|(go_at_call 223;refine(hsg _ hst).mono ?_;rintro e w2 ⟨rfl,g2,hr2⟩;have hl2:w.heap.size≤w2.heap.size:=(hrd.trans hr2).size)|(at_builtin;refine wpList_append_own_at _ rfl (.tmp 30) (.tmp 32) 229 rfl w.heap.size 282 i0 (.agg #[.int .u8 0,.int .i64 0,.int .i64 0]) 3 24 Tryz.underlying229 hi hz0 hz1 hz2 rfl (by decide) v acc.length (acc.flatMap cntCells) rfl (((ownsRow_rd HO.out hr2 hlt).alloc _).alloc _) ⟨w2.heap.size+1,0,none⟩ 1 1 [.int .u8 c.toNat,.int .i64 0,.int .i64 0] rfl rfl ?c1 ?c2 ?c3 ?c4 ?c5 ?_))
    case c1=>
     intro j u hj
     match j,hj with
     |0,hj=>simp at hj;subst hj;simp[Addr.add,go_sem]
     |1,hj=>simp at hj;subst hj;simp[Addr.add,go_sem]
     |2,hj=>simp at hj;subst hj;simp[Addr.add,go_sem]
    case c2=>intro u hu;simp at hu;rcases hu with rfl|rfl<;>rfl
    case c3=>unfold maxLen;simp at hlen;omega
    case c4=>simp at hlen;omega
    case c5=>simp;omega
    intro v' w3 hown3 hgr _ _
    have hrow:∀ k,v.ownBlock=some k→w.heap.size≤k:=fun k hk=>(HO.out.lt k hk).1
    have HO3:Hid (CntRep w3 w.heap.size v' (acc++[⟨c,0,0⟩])):=by
     show CntRep w3 w.heap.size v' (acc++[⟨c,0,0⟩])
     simpa [CntRep,cntCells] using hown3
    have g3:St w3 b s t d x:=((g2.alloc _).alloc _).grown hgr (fun k hk=>by have:=hrow k hk;omega)
    have hr3:Rd b w w3:=(((hrd.trans hr2).alloc _).alloc _).grown hgr hrow
    clear hown3 hgr
    go_wp2
    go_step3
    refine⟨rfl,⟨n',acc++[⟨c,0,0⟩],v',t,⟨g3,hr3,HO3.out,by simp at hlen ⊢;omega,by simp at hn;omega,HQ.out⟩,_,_,_,_,_,_,_,_,_,_,_,_,_,_,_,_,_,_,_,_,_,_,_,_,_,_,_,_,_,rfl⟩,?_⟩
    rw[g3.left,hst.left];simp
   ·by_cases hc3:c=123
    ·subst hc3
     have hsg:=fun w hw=>countSign_y w b s 123 t d x hw (by simp)
     have hbd:=fun w hw=>bounds_any w b s t d x hw
     cases hB:pBounds t with
     |bad r3=>
      rw[hB] at hbd
      have HQ:Hid (R0=.bad r3):=by show _=_;rw[←heq];simp[pCounts,hB,preC]
      clear heq
      go_wp2_with (first|(go_at_call 224;refine(hbd _ (g2.alloc _)).mono ?_;rintro e w3 ⟨⟨p,q,rfl⟩,g3,hr3⟩;have hl3:w2.heap.size<w3.heap.size:=(by have:=hr3.size;simp at this;omega);have hcell:=hr3.block w2.heap.size (by simp) (by omega);have k0:w3.cell? ⟨w2.heap.size,0,none⟩=some (.int .u8 123):=cell_kept hcell 0;have k1:w3.cell? ⟨w2.heap.size,1,none⟩=some (.int .i64 0):=cell_kept hcell 1;have k2:w3.cell? ⟨w2.heap.size,2,none⟩=some (.int .i64 0):=cell_kept hcell 2;have kf:∀ o,w3.frozen? ⟨w2.heap.size,o,none⟩=false:=frozen_kept hcell)|(go_at_call 223;refine(hsg _ hst).mono ?_;rintro e w2 ⟨rfl,g2,hr2⟩;have hl2:w.heap.size≤w2.heap.size:=(hrd.trans hr2).size))
      simp only[Exit.jump]
      go_ret2
      rw[HQ.out]
      exact⟨rfl,(by(repeat (with_reducible refine St.setCell ?_ (by first|exact hlt|(simp;done)|(simp;omega)) _));exact g3),(by(repeat (with_reducible refine Rd.setNew ?_ (by first|exact Nat.le_refl _|(simp;done)|(simp;omega)) _));exact((hrd.trans hr2).alloc _).trans hr3)⟩
     |ok pq r3=>
      obtain⟨p,q⟩:=pq
      rw[hB] at hbd
      have hlb:=pBounds_len hB
      have HQ:Hid (preC (acc++[⟨123,p,q⟩]) (pCounts n' r3)=R0):=by
       show _=_
       rw[←heq]
       simp only[pCounts,hB]
       cases pCounts n' r3<;>simp[preC]
      clear heq
      go_wp2_with (first|(at_builtin;refine wpList_append_own_at _ rfl (.tmp 30) (.tmp 32) 229 rfl w.heap.size 282 i0 (.agg #[.int .u8 0,.int .i64 0,.int .i64 0]) 3 24 Tryz.underlying229 hi hz0 hz1 hz2 rfl (by decide) v acc.length (acc.flatMap cntCells) rfl ((ownsRow_setCell_other (ownsRow_setCell_other (ownsRow_rd ((ownsRow_rd HO.out hr2 hlt).alloc _) hr3 hlt) hob _) hob _).alloc _) ⟨w3.heap.size,0,none⟩ 1 1 [.int .u8 123,.int .i64 p,.int .i64 q] rfl rfl ?c1 ?c2 ?c3 ?c4 ?c5 ?_)|(go_at_call 224;refine(hbd _ (g2.alloc _)).mono ?_;rintro e w3 ⟨rfl,hpq,g3,hr3⟩;have hob:v.ownBlock≠some w2.heap.size:=(fun e=>by have:=(HO.out.lt _ e).2;have:=hr2.size;omega);have hl3:w2.heap.size<w3.heap.size:=(by have:=hr3.size;simp at this;omega);have hcell:=hr3.block w2.heap.size (by simp) (by omega);have k0:w3.cell? ⟨w2.heap.size,0,none⟩=some (.int .u8 123):=cell_kept hcell 0;have k1:w3.cell? ⟨w2.heap.size,1,none⟩=some (.int .i64 0):=cell_kept hcell 1;have k2:w3.cell? ⟨w2.heap.size,2,none⟩=some (.int .i64 0):=cell_kept hcell 2;have kf:∀ o,w3.frozen? ⟨w2.heap.size,o,none⟩=false:=frozen_kept hcell)|(go_at_call 223;refine(hsg _ hst).mono ?_;rintro e w2 ⟨rfl,g2,hr2⟩;have hl2:w.heap.size≤w2.heap.size:=(hrd.trans hr2).size))
      case c1=>
       intro j u hj
       match j,hj with
       |0,hj=>simp at hj;subst hj;simp[Addr.add,go_sem]
       |1,hj=>simp at hj;subst hj;simp[Addr.add,go_sem]
       |2,hj=>simp at hj;subst hj;simp[Addr.add,go_sem]
      case c2=>intro u hu;simp at hu;rcases hu with rfl|rfl|rfl<;>rfl
      case c3=>unfold maxLen;simp at hlen;omega
      case c4=>simp at hlen;omega
      case c5=>simp;omega
      intro v' w4 hown4 hgr _ _
      have hrow:∀ k,v.ownBlock=some k→w.heap.size≤k:=fun k hk=>(HO.out.lt k hk).1
      have HO4:Hid (CntRep w4 w.heap.size v' (acc++[⟨123,p,q⟩])):=by
       show CntRep w4 w.heap.size v' (acc++[⟨123,p,q⟩])
       simpa [CntRep,cntCells] using hown4
      have g3':St ((w3.setCell ⟨w2.heap.size,1,none⟩ (.int .i64 p)).setCell ⟨w2.heap.size,2,none⟩ (.int .i64 q)) b s r3 d x:=(g3.setCell (by simp;omega) _).setCell (by simp;omega) _
      have hr3':Rd b w ((w3.setCell ⟨w2.heap.size,1,none⟩ (.int .i64 p)).setCell ⟨w2.heap.size,2,none⟩ (.int .i64 q)):=((((hrd.trans hr2).alloc _).trans hr3).setNew (by simp;omega) _).setNew (by simp;omega) _
      have g4:St w4 b s r3 d x:=(g3'.alloc _).grown hgr (fun k hk=>by have:=hrow k hk;omega)
      have hr4:Rd b w w4:=(hr3'.alloc _).grown hgr hrow
      clear hown4 hgr
      go_wp2
      go_step3
      refine⟨rfl,⟨n',acc++[⟨123,p,q⟩],v',r3,⟨g4,hr4,HO4.out,by simp at hlen ⊢;omega,by simp at hn;omega,HQ.out⟩,_,_,_,_,_,_,_,_,_,_,_,_,_,_,_,_,_,_,_,_,_,_,_,_,_,_,_,_,_,rfl⟩,?_⟩
      rw[g4.left,hst.left];simp;omega
    ·have HQ:Hid (R0=.ok acc (c::t)):=by show _=_;rw[←heq];simp[pCounts,hc,hc3,preC]
     have hsg:=fun w hw=>countSign_x w b s c t d x hw (fun e=>hc (.inl e)) (fun e=>hc (.inr (.inl e))) (fun e=>hc (.inr (.inr e))) hc3
     clear heq hc hc3
     go_wp2_with (go_at_call 223;refine(hsg _ hst).mono ?_;rintro e w2 ⟨rfl,g2,hr2⟩)
     simp only[Exit.jump]
     go_ret2
     rw[HQ.out]
     exact⟨⟨v,ownsRow_rd HO.out hr2 hlt,rfl⟩,g2,hrd.trans hr2⟩
def RowIn (w:World) (S:Nat→Prop) (e:TypeId) (size:Nat) (v:Value) (n:Nat) (xs:List Value):Prop:=
 xs.length=n*size∧((v=.slice none 0 0∧n=0) ∨
  ∃ g cap cur,v=.slice (some ⟨g,0,none⟩) n cap∧S g∧w.heap[g]?=some (.cells cur e (0,0))∧n≤cap∧cap≤maxLen∧cur.size=cap*size∧cur.toList.take (n*size)=xs)
theorem RowIn.of_heap {w w':World}{S S':Nat→Prop}{e:TypeId}{size:Nat}{v:Value}{n:Nat}{xs:List Value} (h:RowIn w S e size v n xs) (hS:∀ g,S g→g<w.heap.size→S' g∧w'.heap[g]?=w.heap[g]?):RowIn w' S' e size v n xs:=by
 obtain⟨h1,h2⟩:=h
 refine⟨h1,?_⟩
 rcases h2 with h2|⟨g,cap,cur,hv,hg,hh,r⟩
 ·exact .inl h2
 ·have hlt:g<w.heap.size:=by
   rcases Nat.lt_or_ge g w.heap.size with q|q
   ·exact q
   ·simp[Array.getElem?_eq_none q] at hh
  exact .inr ⟨g,cap,cur,hv,(hS g hg hlt).1,((hS g hg hlt).2).trans hh,r⟩
theorem RowIn.of_owns {w:World}{base:Nat}{e:TypeId}{size:Nat}{v:Value}{n:Nat}{xs:List Value} (h:w.ownsRow base e size v n xs):RowIn w (fun g=>base≤g∧g<w.heap.size) e size v n xs:=by
 obtain⟨h1,h2⟩:=h
 refine⟨h1,?_⟩
 rcases h2 with h2|⟨g,cap,cur,hv,hg,hh,r⟩
 ·exact .inl h2
 ·have hlt:g<w.heap.size:=by
   rcases Nat.lt_or_ge g w.heap.size with q|q
   ·exact q
   ·simp[Array.getElem?_eq_none q] at hh
  exact .inr ⟨g,cap,cur,hv,⟨hg,hlt⟩,hh,r⟩
mutual
/-- The six cells of a part. -/
def RepP (w:World) (S:Nat→Prop):Prt→List Value→Prop
 |.mk g B cs,cells=>∃ gv x0 x1 x2 x3 cv,cells=[gv,.int .u64 (x0:Nat),.int .u64 (x1:Nat),.int .u64 (x2:Nat),.int .u64 (x3:Nat),cv] ∧
   (∃ vs,RowIn w S 225 1 gv g.length vs∧RepVs w S g vs)∧Wd x0 x1 x2 x3 B∧RowIn w S 282 3 cv cs.length (cs.flatMap cntCells)
/-- The cells of parts. -/
def RepPs (w:World) (S:Nat→Prop):List Prt→List (List Value)→Prop
 |[],css=>css=[]
 |p::ps,css=>∃ c cs',css=c::cs'∧RepP w S p c∧RepPs w S ps cs'
/-- The values of chains. -/
def RepVs (w:World) (S:Nat→Prop):List (List Prt)→List Value→Prop
 |[],vs=>vs=[]
 |c::cs,vs=>∃ v vs',vs=v::vs'∧(∃ css,RowIn w S 231 6 v c.length css.flatten∧RepPs w S c css)∧RepVs w S cs vs'
end
def RepC (w:World) (S:Nat→Prop) (ps:List Prt) (v:Value):Prop:=∃ css,RowIn w S 231 6 v ps.length css.flatten∧RepPs w S ps css
def RepCs (w:World) (S:Nat→Prop) (cs:List (List Prt)) (v:Value):Prop:=∃ vs,RowIn w S 225 1 v cs.length vs∧RepVs w S cs vs
section
variable {w w':World}{S S':Nat→Prop}
mutual
theorem RepP.of_heap (hS:∀ g,S g→g<w.heap.size→S' g∧w'.heap[g]?=w.heap[g]?):∀(p:Prt) (cells:List Value),RepP w S p cells→RepP w' S' p cells
 |.mk g B cs,cells,h=>by
  simp only[RepP] at h ⊢
  obtain⟨gv,x0,x1,x2,x3,cv,he,⟨vs,hr,hv⟩,hw,hc⟩:=h
  exact⟨gv,x0,x1,x2,x3,cv,he,⟨vs,hr.of_heap hS,RepVs.of_heap hS g vs hv⟩,hw,hc.of_heap hS⟩
theorem RepPs.of_heap (hS:∀ g,S g→g<w.heap.size→S' g∧w'.heap[g]?=w.heap[g]?):∀(ps:List Prt) (css:List (List Value)),RepPs w S ps css→RepPs w' S' ps css
 |[],css,h=>by simpa only [RepPs] using h
 |p::ps,css,h=>by
  simp only[RepPs] at h ⊢
  obtain⟨c,cs',he,h1,h2⟩:=h
  exact⟨c,cs',he,RepP.of_heap hS p c h1,RepPs.of_heap hS ps cs' h2⟩
theorem RepVs.of_heap (hS:∀ g,S g→g<w.heap.size→S' g∧w'.heap[g]?=w.heap[g]?):∀(cs:List (List Prt)) (vs:List Value),RepVs w S cs vs→RepVs w' S' cs vs
 |[],vs,h=>by simpa only [RepVs] using h
 |c::cs,vs,h=>by
  simp only[RepVs] at h ⊢
  obtain⟨v,vs',he,⟨css,hr,h1⟩,h2⟩:=h
  exact⟨v,vs',he,⟨css,hr.of_heap hS,RepPs.of_heap hS c css h1⟩,RepVs.of_heap hS cs vs' h2⟩
end
end
theorem RepC.of_heap {w w':World}{S S':Nat→Prop}{ps:List Prt}{v:Value} (h:RepC w S ps v) (hS:∀ g,S g→g<w.heap.size→S' g∧w'.heap[g]?=w.heap[g]?):RepC w' S' ps v:=by
 obtain⟨css,hr,h1⟩:=h;exact⟨css,hr.of_heap hS,RepPs.of_heap hS ps css h1⟩
theorem RepCs.of_heap {w w':World}{S S':Nat→Prop}{cs:List (List Prt)}{v:Value} (h:RepCs w S cs v) (hS:∀ g,S g→g<w.heap.size→S' g∧w'.heap[g]?=w.heap[g]?):RepCs w' S' cs v:=by
 obtain⟨vs,hr,h1⟩:=h;exact⟨vs,hr.of_heap hS,RepVs.of_heap hS cs vs h1⟩
theorem RepPs.snoc {w:World}{S:Nat→Prop}{p:Prt}{c:List Value} (hp:RepP w S p c):∀ {ps:List Prt}{css:List (List Value)},RepPs w S ps css→RepPs w S (ps++[p]) (css++[c])
 |[],css,h=>by
  simp only[RepPs] at h;subst h
  simp only[List.nil_append,RepPs]
  exact⟨c,[],rfl,hp,rfl⟩
 |q::ps,css,h=>by
  simp only[RepPs] at h
  obtain⟨c',cs',rfl,h1,h2⟩:=h
  simp only[List.cons_append,RepPs]
  exact⟨c',cs'++[c],rfl,h1,RepPs.snoc hp h2⟩
theorem RepVs.snoc {w:World}{S:Nat→Prop}{c:List Prt}{v:Value} (hc:RepC w S c v):∀ {cs:List (List Prt)}{vs:List Value},RepVs w S cs vs→RepVs w S (cs++[c]) (vs++[v])
 |[],vs,h=>by
  simp only[RepVs] at h;subst h
  simp only[List.nil_append,RepVs]
  exact⟨v,[],rfl,hc,rfl⟩
 |q::cs,vs,h=>by
  simp only[RepVs] at h
  obtain⟨v',vs',rfl,h1,h2⟩:=h
  simp only[List.cons_append,RepVs]
  exact⟨v',vs'++[v],rfl,h1,RepVs.snoc hc h2⟩
abbrev From (B:Nat) (w:World) (g:Nat):Prop:=B≤g∧g<w.heap.size
def nestG (g:List (List Prt)):Nat:=match g with|[]=>0|c::cs=>1+nestCs (c::cs)
theorem nestP_eq (g:List (List Prt)) (B:Nat→Bool) (cs:List Cnt):nestP (.mk g B cs)=nestG g:=by
 cases g with
 |nil=>simp[nestP,nestG]
 |cons c cs'=>simp[nestP,nestG,nestCs]
theorem nestG_le (g:List (List Prt)):nestG g≤1+nestCs g:=by cases g<;>simp[nestG]
theorem pLen (n:Nat) :
  (∀ r cs r',pChoices n r=.ok cs r'→nestCs cs+r'.length≤r.length) ∧
  (∀ r ps r',pChain n r=.ok ps r'→nestC ps+r'.length≤r.length) ∧
  (∀ r p r',pPart n r=.ok p r'→nestP p+r'.length+1≤r.length) ∧
  (∀ r g B r',pAtom n r=.ok (g,B) r'→nestG g+r'.length+1≤r.length):=by
 induction n with
 |zero=>exact⟨fun r cs r' h=>by simp[pChoices] at h,fun r cs r' h=>by simp[pChain] at h,fun r cs r' h=>by simp[pPart] at h,fun r g B r' h=>by simp[pAtom] at h⟩
 |succ n ih=>
  obtain⟨i1,i2,i3,i4⟩:=ih
  refine⟨fun r cs r' h=>?_,fun r ps r' h=>?_,fun r p r' h=>?_,fun r g B r' h=>?_⟩
  ·simp only[pChoices] at h
   split at h
   ·simp at h
   ·rename_i c r1 h1
    have l1:=i2 _ _ _ h1
    split at h
    ·split at h
     ·rename_i h2
      injection h with e1 e2;subst e1;subst e2
      have l2:=i1 _ _ _ h2
      simp[nestCs] at *;omega
     ·simp at h
    ·injection h with e1 e2;subst e1;subst e2
     simp[nestCs];omega
  ·simp only[pChain] at h
   split at h
   ·split at h
    ·simp at h
    ·rename_i h1
     have l1:=i3 _ _ _ h1
     split at h
     ·rename_i h2
      injection h with e1 e2;subst e1;subst e2
      have l2:=i2 _ _ _ h2
      simp[nestC];omega
     ·simp at h
   ·injection h with e1 e2;subst e1;subst e2;simp[nestC]
  ·simp only[pPart] at h
   split at h
   ·simp at h
   ·rename_i g S r1 h1
    have l1:=i4 _ _ _ _ h1
    split at h
    ·rename_i h2
     injection h with e1 e2;subst e1;subst e2
     have l2:=pCounts_len h2
     rw[nestP_eq];omega
    ·simp at h
  ·simp only[pAtom] at h
   match r,h with
   |c::t,h=>
    simp only at h
    split at h
    ·split at h
     ·simp at h
     ·rename_i cs1 r1 h1
      have l1:=i1 _ _ _ h1
      split at h
      ·injection h with e1 e2;injection e1 with e1 _;subst e1;subst e2
       have:=nestG_le cs1
       simp at *;omega
      ·simp at h
    ·split at h
     ·split at h
      ·rename_i h1;injection h with e1 e2;injection e1 with e1 _;subst e1;subst e2
       have:=pClass_len h1;simp[nestG];omega
      ·simp at h
     ·split at h
      ·split at h
       ·rename_i h1;injection h with e1 e2;injection e1 with e1 _;subst e1;subst e2
        have:=pEscape_len h1;simp[nestG];omega
       ·simp at h
      ·split at h
       ·injection h with e1 e2;injection e1 with e1 _;subst e1;subst e2;simp[nestG]
       ·injection h with e1 e2;injection e1 with e1 _;subst e1;subst e2;simp[nestG]
open Go.RowKit
theorem isSg_eq (c:UInt8):isSignB c.toNat=isSg c:=by
 have H:((List.range 256).all fun n=>(fun c:UInt8=>isSignB c.toNat==isSg c) (UInt8.ofNat n))=true:=by kernel_rfl
 exact eq_of_beq (all256 (fun c:UInt8=>isSignB c.toNat==isSg c) H c)
theorem isSign_c (c:UInt8) (w:World) (hT:Tabs w):Calls Tryz.prog 207 #[.int .u8 c.toNat] w fun e w'=>e=.returned (.bool (isSg c))∧w'=w:=by
 rw[←isSg_eq];exact isSign_any c.toNat w hT (by omega) (u8_le c)
theorem beginsAtom_any (w:World) (b:Nat) (s:ByteArray) (r:List UInt8) (d x:Int) (h:St w b s r d x) :
  Calls Tryz.prog 195 #[.pointer (some ⟨b,0,none⟩)] w fun e w'=>e=.returned (.bool (begins r))∧StTo w w' b s r d x:=by
 match r,h with
 |[],h=>
  go_enter Tryz.func195,Tryz.ntmps195
  go_wp2_with (go_at_call 172;refine(peek_n _ b s d x h).mono ?_;rintro e w2 ⟨rfl,h2⟩)
  go_ret
  exact⟨rfl,h2⟩
 |c::t,h=>
  by_cases hc:c=46∨c=92∨c=91∨c=40
  ·have HB:Hid (begins (c::t)=true):=by show _=_;rcases hc with q|q|q|q<;>simp[begins,q]
   rcases hc with rfl|rfl|rfl|rfl
   all_goals
    go_enter Tryz.func195,Tryz.ntmps195
    go_wp2_with (go_at_call 172;refine(peek_c _ b s _ t d x h).mono ?_;rintro e w2 ⟨rfl,h2⟩)
    go_ret
    exact⟨ret_bool HB.out.symm,h2⟩
  ·have n1:((c.toNat:Int)==46)=false:=by simpa using u8_int (b:=46) (fun e=>hc (.inl e))
   have n2:((c.toNat:Int)==92)=false:=by simpa using u8_int (b:=92) (fun e=>hc (.inr (.inl e)))
   have n3:((c.toNat:Int)==91)=false:=by simpa using u8_int (b:=91) (fun e=>hc (.inr (.inr (.inl e))))
   have n4:((c.toNat:Int)==40)=false:=by simpa using u8_int (b:=40) (fun e=>hc (.inr (.inr (.inr e))))
   have hs:=fun w hw=>isSign_c c w hw
   obtain⟨B,hB⟩:∃ B,B=isSg c:=⟨_,rfl⟩
   have HB:Hid (begins (c::t)=!B):=by
    show _=_
    rw[hB]
    simp only[not_or] at hc
    simp[begins,hc.1,hc.2.1,hc.2.2.1,hc.2.2.2]
   rw[←hB] at hs
   clear hB hc
   go_enter Tryz.func195,Tryz.ntmps195
   go_wp2_with (first|(go_at_call 207;refine(hs _ h2.1.tb).mono ?_;rintro e w3 ⟨rfl,hw⟩;obtain rfl:=hw.symm)|(go_at_call 172;refine(peek_c _ b s _ t d x h).mono ?_;rintro e w2 ⟨rfl,h2⟩))
   go_ret
   exact⟨ret_bool HB.out.symm,h2⟩
def up (x d:Int) (k:Nat):Int:=max x (d+k)
theorem St.open2 {w:World}{b:Nat}{s:ByteArray}{c:UInt8}{t:List UInt8}{d x:Int} (h:St w b s (c::t) d x) :
  ∃(k:Nat) (hk:k<s.size),s.size≤200∧s[k]=c∧w.cell? ⟨b,0,none⟩=some (.string s)∧w.cell? ⟨b,1,none⟩=some (.int .i64 k)∧w.frozen? ⟨b,1,none⟩=false∧∀ w0,Rd b w0 w→StTo w0 (w.setCell ⟨b,1,none⟩ (.int .i64 (k+1))) b s t d x:=by
 obtain⟨k,hr,hk,hs⟩:=h.rd
 obtain⟨hk',e1,e2⟩:=suf_cons hs
 have:=h.sz
 refine⟨k,hk',h.sz,e1,hr.c0,hr.c1,hr.fz 1,fun w0 h0=>?_⟩
 have:=hr.step (k+1)
 have g:=h.of_rd (k:=k+1) (d':=d) (x':=x) (r':=t) ⟨by simpa using this,(Rd.refl b w).setCell 1 _⟩ hk' e2
 exact⟨by simpa using g.1,h0.setCell _ _⟩
abbrev zero5:Obj:=.cells #[.slice none 0 0,.int .u64 0,.int .u64 0,.int .u64 0,.int .u64 0] 228
structure Z5 (w:World) (b:Nat):Prop where
 c0:w.cell? ⟨b,0,none⟩=some (.slice none 0 0)
 c1:w.cell? ⟨b,1,none⟩=some (.int .u64 0)
 c2:w.cell? ⟨b,2,none⟩=some (.int .u64 0)
 c3:w.cell? ⟨b,3,none⟩=some (.int .u64 0)
 c4:w.cell? ⟨b,4,none⟩=some (.int .u64 0)
 fz:∀ o,w.frozen? ⟨b,o,none⟩=false
theorem Z5.of_heap {w w':World}{b:Nat} (h:Z5 w b) (hb:w'.heap[b]?=w.heap[b]?):Z5 w' b:=by
 have hc:∀ o,w'.cell? ⟨b,o,none⟩=w.cell? ⟨b,o,none⟩:=fun o=>by simp[World.cell?,hb]
 have hf:∀ o,w'.frozen? ⟨b,o,none⟩=w.frozen? ⟨b,o,none⟩:=fun o=>by simp[World.frozen?,hb]
 exact⟨(hc _).trans h.c0,(hc _).trans h.c1,(hc _).trans h.c2,(hc _).trans h.c3,(hc _).trans h.c4,fun o=>(hf o).trans (h.fz o)⟩
theorem new5 (w:World):Z5 (w.alloc zero5) w.heap.size:=by
 refine⟨?_,?_,?_,?_,?_,fun o=>?_⟩<;>simp[go_sem]
theorem St.stepAt {w:World}{b:Nat}{s:ByteArray}{c:UInt8}{t:List UInt8}{d x:Int} (h:St w b s (c::t) d x) (k:Nat) (hk:w.cell? ⟨b,1,none⟩=some (.int .i64 k)):St (w.setCell ⟨b,1,none⟩ (.int .i64 (k+1))) b s t d x:=by
 obtain⟨k',_,k1,_,kk⟩:=h.open
 rw[k1] at hk
 injection hk with e;injection e with _ e
 have:=(kk w (Rd.refl _ _)).1
 rw[e] at this;exact this
abbrev atomW (w:World) (b k nq:Nat):World:=(((w.alloc zero5).drewN nq).setCell ⟨b,1,none⟩ (.int .i64 (k+1))).alloc zero5
structure AtomPre (w w1:World) (b:Nat) (s:ByteArray) (t:List UInt8) (d x:Int):Prop where
 st:St w1 b s t d x
 rd:Rd b w w1
 z1:Z5 w1 w.heap.size
 z2:Z5 w1 (w.heap.size+1)
 sz:w1.heap.size=w.heap.size+2
theorem atom_pre {w:World}{b:Nat}{s:ByteArray}{c:UInt8}{t:List UInt8}{d x:Int} (h:St w b s (c::t) d x) (k:Nat) (hk:w.cell? ⟨b,1,none⟩=some (.int .i64 k)) (nq:Nat):AtomPre w (atomW w b k nq) b s t d x:=by
 have hne:=h.ne
 have hlt:=h.lt
 have h1:=((h.alloc zero5).drewN nq).stepAt k (by rw[World.cell?_drewN,bl_alloc hlt];exact hk)
 have hsz:((((w.alloc zero5).drewN nq).setCell ⟨b,1,none⟩ (.int .i64 (k+1)))).heap.size=w.heap.size+1:=by simp[World.setCell]
 refine⟨h1.alloc _,((((Rd.refl b w).alloc _).drewN _).setCell _ _).alloc _,?_,?_,by rw[World.size_alloc,hsz]⟩
 ·refine(new5 w).of_heap ?_
  rw[Below.heap_alloc _ _ _ (by rw[hsz];omega),Below.heap_setCell _ _ _ _ hne]
  rfl
 ·have:=new5 (((w.alloc zero5).drewN nq).setCell ⟨b,1,none⟩ (.int .i64 (k+1)))
  rw[hsz] at this;exact this
theorem atom_plain (w:World) (b:Nat) (s:ByteArray) (c:UInt8) (t:List UInt8) (d x:Int) (h:St w b s (c::t) d x) (n1:((c.toNat:Int)==40)=false) (n2:((c.toNat:Int)==91)=false) (n3:((c.toNat:Int)==92)=false) (n4:((c.toNat:Int)==46)=false) :
  Calls Tryz.prog 208 #[.pointer (some ⟨b,0,none⟩)] w fun e w'=>(∃ x0 x1 x2 x3:Nat,Wd x0 x1 x2 x3 (inSpan c.toNat c.toNat)∧e=.returned (.tuple #[.agg #[.slice none 0 0,.int .u64 x0,.int .u64 x1,.int .u64 x2,.int .u64 x3],.bool true]))∧StTo w w' b s t d x:=by
 have hne:=h.ne
 have hlt:=h.lt
 obtain⟨k,hk,hs2,hsk,k0,k1,kf,kk⟩:=h.open2
 have hpre:=fun nq=>atom_pre h k k1 nq
 have HP:Hid _:=hpre
 have hsk':(s[k].toNat:Int)=c.toNat:=by rw[hsk]
 clear hsk hpre kk
 go_enter Tryz.func208,Tryz.ntmps208
 go_wp2
 go_quiet (fail)
 go_wp2_with (go_at_call 221;refine(add_any (atomW w b k nq) (w.heap.size+1) 1 c.toNat (fun _=>false) 0 0 0 0 c.toNat_lt ⟨wd0,(HP.out nq).z2.c1,(HP.out nq).z2.c2,(HP.out nq).z2.c3,(HP.out nq).z2.c4,(HP.out nq).z2.fz⟩).mono ?_;rintro e w2 ⟨rfl,⟨y0,y1,y2,y3,hy⟩,hf2⟩;obtain⟨hwy,p0,p1,p2,p3,pz⟩:=hy;have hsz:=(HP.out nq).sz;have q0:=(hf2.cell 0 (by omega)).trans (HP.out nq).z2.c0;obtain⟨z0,z1,z2,z3,z4,zf⟩:=(HP.out nq).z1.of_heap (w':=w2) (hf2.block w.heap.size (by rw[hsz];omega) (by omega)))
 have g2:=(HP.out nq).st.four hf2 (by omega)
 have hr2:=(HP.out nq).rd.four hf2 (by omega)
 exact bodyPost_ret (v:=.tuple #[.agg #[.slice none 0 0,.int .u64 y0,.int .u64 y1,.int .u64 y2,.int .u64 y3],.bool true]) (by simp[results,Tryz.results208,go_sem,z0,z1,z2,z3,z4]) rfl ⟨⟨y0,y1,y2,y3,hwy.congr (fun n=>by simp[orS]),rfl⟩,(by(repeat first|(with_reducible refine St.setCell ?_ (by first|exact hlt|(simp;done)|(simp;omega)) _)|(with_reducible refine St.alloc ?_ _)|(with_reducible refine St.drew ?_)|(with_reducible refine St.drewN ?_ _));exact g2),(by(repeat first|(with_reducible refine Rd.setNew ?_ (by first|exact Nat.le_refl _|(simp;done)|(simp;omega)) _)|(with_reducible refine Rd.alloc ?_ _)|(with_reducible refine Rd.drew ?_)|(with_reducible refine Rd.drewN ?_ _));exact hr2)⟩
theorem atom_dot (w:World) (b:Nat) (s:ByteArray) (c:UInt8) (t:List UInt8) (d x:Int) (h:St w b s (c::t) d x) (hc:c=46) :
  Calls Tryz.prog 208 #[.pointer (some ⟨b,0,none⟩)] w fun e w'=>(∃ x0 x1 x2 x3:Nat,Wd x0 x1 x2 x3 (fun n=>!inSpan 10 10 n)∧e=.returned (.tuple #[.agg #[.slice none 0 0,.int .u64 x0,.int .u64 x1,.int .u64 x2,.int .u64 x3],.bool true]))∧StTo w w' b s t d x:=by
 subst hc
 have hne:=h.ne
 have hlt:=h.lt
 obtain⟨k,hk,hs2,hsk,k0,k1,kf,kk⟩:=h.open2
 have hpre:=fun nq=>atom_pre h k k1 nq
 have HP:Hid _:=hpre
 have hsk':(s[k].toNat:Int)=46:=by rw[hsk];rfl
 clear hsk hpre kk
 go_enter Tryz.func208,Tryz.ntmps208
 go_wp2
 go_quiet (fail)
 go_wp2_with (first|(go_at_call 222;refine(invert_any w2 (w.heap.size+1) 1 (orS (fun _=>false) (inSpan 10 10)) ⟨y0,y1,y2,y3,hy⟩).mono ?_;rintro e w3 ⟨rfl,⟨v0,v1,v2,v3,hv⟩,hf3⟩;obtain⟨hwv,p0,p1,p2,p3,pz⟩:=hv;have q0:=(hf3.cell 0 (by omega)).trans q0';have hsz3:=hf3.size;obtain⟨z0,z1,z2,z3,z4,zf⟩:=Z5.of_heap (w':=w3) hz5 (hf3.block w.heap.size (by omega) (by omega)))|(go_at_call 221;refine(add_any (atomW w b k nq) (w.heap.size+1) 1 10 (fun _=>false) 0 0 0 0 (by omega) ⟨wd0,(HP.out nq).z2.c1,(HP.out nq).z2.c2,(HP.out nq).z2.c3,(HP.out nq).z2.c4,(HP.out nq).z2.fz⟩).mono ?_;rintro e w2 ⟨rfl,⟨y0,y1,y2,y3,hy⟩,hf2⟩;have hsz:=(HP.out nq).sz;have hsz2:=hf2.size;have q0':=(hf2.cell 0 (by omega)).trans (HP.out nq).z2.c0;have hz5:=(HP.out nq).z1.of_heap (w':=w2) (hf2.block w.heap.size (by rw[hsz];omega) (by omega))))
 have g3:=((HP.out nq).st.four hf2 (by omega)).four hf3 (by omega)
 have hr3:=((HP.out nq).rd.four hf2 (by omega)).four hf3 (by omega)
 exact bodyPost_ret (v:=.tuple #[.agg #[.slice none 0 0,.int .u64 v0,.int .u64 v1,.int .u64 v2,.int .u64 v3],.bool true]) (by simp[results,Tryz.results208,go_sem,z0,z1,z2,z3,z4]) rfl ⟨⟨v0,v1,v2,v3,hwv.congr (fun n=>by simp[orS]),rfl⟩,(by(repeat first|(with_reducible refine St.setCell ?_ (by first|exact hlt|(simp;done)|(simp;omega)) _)|(with_reducible refine St.alloc ?_ _)|(with_reducible refine St.drew ?_)|(with_reducible refine St.drewN ?_ _));exact g3),(by(repeat first|(with_reducible refine Rd.setNew ?_ (by first|exact Nat.le_refl _|(simp;done)|(simp;omega)) _)|(with_reducible refine Rd.alloc ?_ _)|(with_reducible refine Rd.drew ?_)|(with_reducible refine Rd.drewN ?_ _));exact hr3)⟩
theorem atom_class (w:World) (b:Nat) (s:ByteArray) (c:UInt8) (t r':List UInt8) (d x:Int) (h:St w b s (c::t) d x) (hc:c=91) (ok:Bool) (Q:Nat→Nat→Nat→Nat→Prop)
  (hcl:∀ w,St w b s t d x→Calls Tryz.prog 219 #[.pointer (some ⟨b,0,none⟩)] w fun e w'=>(∃ x0 x1 x2 x3:Nat,Q x0 x1 x2 x3∧e=.returned (.tuple #[wv x0 x1 x2 x3,.bool ok]))∧StTo w w' b s r' d x) :
  Calls Tryz.prog 208 #[.pointer (some ⟨b,0,none⟩)] w fun e w'=>(∃ x0 x1 x2 x3:Nat,Q x0 x1 x2 x3∧e=.returned (.tuple #[.agg #[.slice none 0 0,.int .u64 x0,.int .u64 x1,.int .u64 x2,.int .u64 x3],.bool ok]))∧StTo w w' b s r' d x:=by
 subst hc
 have hne:=h.ne
 have hlt:=h.lt
 obtain⟨k,hk,hs2,hsk,k0,k1,kf,kk⟩:=h.open2
 have hpre:=fun nq=>atom_pre h k k1 nq
 have HP:Hid _:=hpre
 have hsk':(s[k].toNat:Int)=91:=by rw[hsk];rfl
 clear hsk hpre kk
 go_enter Tryz.func208,Tryz.ntmps208
 go_wp2
 go_quiet (fail)
 go_wp2_with (go_at_call 219;refine(hcl (atomW w b k nq) (HP.out nq).st).mono ?_;rintro e w2 ⟨⟨x0,x1,x2,x3,hq,rfl⟩,g2,hr2⟩;have hsz:=(HP.out nq).sz;have hsz2:=hr2.size;obtain⟨a0,a1,a2,a3,a4,af⟩:=(HP.out nq).z2.of_heap (w':=w2) (hr2.block (w.heap.size+1) (by rw[hsz];omega) (by omega));obtain⟨z0,z1,z2,z3,z4,zf⟩:=(HP.out nq).z1.of_heap (w':=w2) (hr2.block w.heap.size (by rw[hsz];omega) hne))
 have hr3:=(HP.out nq).rd.trans hr2
 exact bodyPost_ret (v:=.tuple #[.agg #[.slice none 0 0,.int .u64 x0,.int .u64 x1,.int .u64 x2,.int .u64 x3],.bool ok]) (by simp[results,Tryz.results208,go_sem,z0,z1,z2,z3,z4,a0,a1,a2,a3,a4]) rfl ⟨⟨x0,x1,x2,x3,hq,rfl⟩,(by(repeat first|(with_reducible refine St.setCell ?_ (by first|exact hlt|(simp;done)|(simp;omega)) _)|(with_reducible refine St.alloc ?_ _)|(with_reducible refine St.drew ?_)|(with_reducible refine St.drewN ?_ _));exact g2),(by(repeat first|(with_reducible refine Rd.setNew ?_ (by first|exact Nat.le_refl _|(simp;done)|(simp;omega)) _)|(with_reducible refine Rd.alloc ?_ _)|(with_reducible refine Rd.drew ?_)|(with_reducible refine Rd.drewN ?_ _));exact hr3)⟩
theorem atom_escape (w:World) (b:Nat) (s:ByteArray) (c:UInt8) (t r':List UInt8) (d x:Int) (h:St w b s (c::t) d x) (hc:c=92) (ok:Bool) (Q:Nat→Nat→Nat→Nat→Prop)
  (hcl:∀ w,St w b s t d x→Calls Tryz.prog 220 #[.pointer (some ⟨b,0,none⟩)] w fun e w'=>(∃ x0 x1 x2 x3:Nat,Q x0 x1 x2 x3∧e=.returned (.tuple #[wv x0 x1 x2 x3,.bool ok]))∧StTo w w' b s r' d x) :
  Calls Tryz.prog 208 #[.pointer (some ⟨b,0,none⟩)] w fun e w'=>(∃ x0 x1 x2 x3:Nat,Q x0 x1 x2 x3∧e=.returned (.tuple #[.agg #[.slice none 0 0,.int .u64 x0,.int .u64 x1,.int .u64 x2,.int .u64 x3],.bool ok]))∧StTo w w' b s r' d x:=by
 subst hc
 have hne:=h.ne
 have hlt:=h.lt
 obtain⟨k,hk,hs2,hsk,k0,k1,kf,kk⟩:=h.open2
 have hpre:=fun nq=>atom_pre h k k1 nq
 have HP:Hid _:=hpre
 have hsk':(s[k].toNat:Int)=92:=by rw[hsk];rfl
 clear hsk hpre kk
 go_enter Tryz.func208,Tryz.ntmps208
 go_wp2
 go_quiet (fail)
 go_wp2_with (go_at_call 220;refine(hcl (atomW w b k nq) (HP.out nq).st).mono ?_;rintro e w2 ⟨⟨x0,x1,x2,x3,hq,rfl⟩,g2,hr2⟩;have hsz:=(HP.out nq).sz;have hsz2:=hr2.size;obtain⟨a0,a1,a2,a3,a4,af⟩:=(HP.out nq).z2.of_heap (w':=w2) (hr2.block (w.heap.size+1) (by rw[hsz];omega) (by omega));obtain⟨z0,z1,z2,z3,z4,zf⟩:=(HP.out nq).z1.of_heap (w':=w2) (hr2.block w.heap.size (by rw[hsz];omega) hne))
 have hr3:=(HP.out nq).rd.trans hr2
 exact bodyPost_ret (v:=.tuple #[.agg #[.slice none 0 0,.int .u64 x0,.int .u64 x1,.int .u64 x2,.int .u64 x3],.bool ok]) (by simp[results,Tryz.results208,go_sem,z0,z1,z2,z3,z4,a0,a1,a2,a3,a4]) rfl ⟨⟨x0,x1,x2,x3,hq,rfl⟩,(by(repeat first|(with_reducible refine St.setCell ?_ (by first|exact hlt|(simp;done)|(simp;omega)) _)|(with_reducible refine St.alloc ?_ _)|(with_reducible refine St.drew ?_)|(with_reducible refine St.drewN ?_ _));exact g2),(by(repeat first|(with_reducible refine Rd.setNew ?_ (by first|exact Nat.le_refl _|(simp;done)|(simp;omega)) _)|(with_reducible refine Rd.alloc ?_ _)|(with_reducible refine Rd.drew ?_)|(with_reducible refine Rd.drewN ?_ _));exact hr3)⟩
theorem atom_group (w:World) (b:Nat) (s:ByteArray) (c:UInt8) (t r':List UInt8) (d x:Int) (X:Int→Prop) (h:St w b s (c::t) d x) (hc:c=40) (ok:Bool) (Q:World→World→Value→Prop)
  (hcl:∀ w,St w b s t d x→Calls Tryz.prog 218 #[.pointer (some ⟨b,0,none⟩)] w fun e w'=>∃ x',X x'∧(∃ g0 n0 c0,Q w w' (.slice g0 n0 c0)∧e=.returned (.tuple #[.slice g0 n0 c0,.bool ok]))∧StTo w w' b s r' d x') :
  Calls Tryz.prog 208 #[.pointer (some ⟨b,0,none⟩)] w fun e w'=>∃ x',X x'∧(∃ g0 n0 c0 w1 w2,Q w1 w2 (.slice g0 n0 c0)∧Rd b w w1∧(∀ g,w.heap.size+2≤g→w'.heap[g]?=w2.heap[g]?)∧w1.heap.size=w.heap.size+2∧w'.heap.size=w2.heap.size∧e=.returned (.tuple #[.agg #[.slice g0 n0 c0,.int .u64 0,.int .u64 0,.int .u64 0,.int .u64 0],.bool ok]))∧StTo w w' b s r' d x':=by
 subst hc
 have hne:=h.ne
 have hlt:=h.lt
 obtain⟨k,hk,hs2,hsk,k0,k1,kf,kk⟩:=h.open2
 have hpre:=fun nq=>atom_pre h k k1 nq
 have HP:Hid _:=hpre
 have hsk':(s[k].toNat:Int)=40:=by rw[hsk];rfl
 clear hsk hpre kk
 go_enter Tryz.func208,Tryz.ntmps208
 go_wp2
 go_quiet (fail)
 go_wp2_with (go_at_call 218;refine(hcl (atomW w b k nq) (HP.out nq).st).mono ?_;rintro e w2 ⟨x',hX,⟨g0,n0,c0,hq,rfl⟩,g2,hr2⟩;have hsz:=(HP.out nq).sz;have hsz2:=hr2.size;obtain⟨a0,a1,a2,a3,a4,af⟩:=(HP.out nq).z2.of_heap (w':=w2) (hr2.block (w.heap.size+1) (by rw[hsz];omega) (by omega));obtain⟨z0,z1,z2,z3,z4,zf⟩:=(HP.out nq).z1.of_heap (w':=w2) (hr2.block w.heap.size (by rw[hsz];omega) hne))
 have hr3:=(HP.out nq).rd.trans hr2
 refine bodyPost_ret (v:=.tuple #[.agg #[.slice g0 n0 c0,.int .u64 0,.int .u64 0,.int .u64 0,.int .u64 0],.bool ok]) (by simp[results,Tryz.results208,go_sem,z0,z1,z2,z3,z4,a0,a1,a2,a3,a4]) rfl ⟨x',hX,⟨g0,n0,c0,_,w2,hq,(HP.out nq).rd,?_,hsz,?_,rfl⟩,(by(repeat first|(with_reducible refine St.setCell ?_ (by first|exact hlt|(simp;done)|(simp;omega)) _)|(with_reducible refine St.alloc ?_ _)|(with_reducible refine St.drew ?_)|(with_reducible refine St.drewN ?_ _));exact g2),(by(repeat first|(with_reducible refine Rd.setNew ?_ (by first|exact Nat.le_refl _|(simp;done)|(simp;omega)) _)|(with_reducible refine Rd.alloc ?_ _)|(with_reducible refine Rd.drew ?_)|(with_reducible refine Rd.drewN ?_ _));exact hr3)⟩
 ·intro g hg
  (repeat rw[Below.heap_setCell _ _ _ _ (by simp;omega)])
 ·simp[World.setCell]
theorem St.dep {w:World}{b:Nat}{s:ByteArray}{r:List UInt8}{d x:Int} (h:St w b s r d x) (d':Int):St (w.setCell ⟨b,2,none⟩ (.int .i64 d')) b s r d' x:=by
 obtain⟨⟨k,⟨c0,c1,c2,c3,fz,lt⟩,hk,hs⟩,tb,b3,sz⟩:=h
 refine⟨⟨k,⟨?_,?_,?_,?_,?_,?_⟩,hk,hs⟩,tb.of_block (fun j hj=>Below.heap_setCell _ _ _ _ (by simp;omega)),b3,sz⟩<;>(try intro o)<;>simp[c0,c1,c2,c3,fz,lt,go_sem]
theorem St.deep {w:World}{b:Nat}{s:ByteArray}{r:List UInt8}{d x:Int} (h:St w b s r d x) (x':Int):St (w.setCell ⟨b,3,none⟩ (.int .i64 x')) b s r d x':=by
 obtain⟨⟨k,⟨c0,c1,c2,c3,fz,lt⟩,hk,hs⟩,tb,b3,sz⟩:=h
 refine⟨⟨k,⟨?_,?_,?_,?_,?_,?_⟩,hk,hs⟩,tb.of_block (fun j hj=>Below.heap_setCell _ _ _ _ (by simp;omega)),b3,sz⟩<;>(try intro o)<;>simp[c0,c1,c2,c3,fz,lt,go_sem]
theorem St.cells {w:World}{b:Nat}{s:ByteArray}{r:List UInt8}{d x:Int} (h:St w b s r d x):w.cell? ⟨b,2,none⟩=some (.int .i64 d)∧w.cell? ⟨b,3,none⟩=some (.int .i64 x)∧(∀ o,w.frozen? ⟨b,o,none⟩=false):=by
 obtain⟨⟨k,⟨c0,c1,c2,c3,fz,lt⟩,hk,hs⟩,tb,b3,sz⟩:=h
 exact⟨c2,c3,fz⟩
abbrev ChsC (b:Nat) (s:ByteArray) (r r':List UInt8) (d x:Int) (X:Int→Prop) (ok:Bool) (Q:World→World→Value→Prop):Prop:=
 ∀ w,St w b s r d x→Calls Tryz.prog 122 #[.pointer (some ⟨b,0,none⟩)] w fun e w'=>∃ x',X x'∧(∃ g0 n0 c0,Q w w' (.slice g0 n0 c0)∧e=.returned (.tuple #[.slice g0 n0 c0,.bool ok]))∧StTo w w' b s r' d x'
theorem group_1 (w:World) (b:Nat) (s:ByteArray) (r r':List UInt8) (d x y:Int) (X:Int→Prop) (h:St w b s r d x) (d0:0≤d) (d1:d≤200) (Q:World→World→Value→Prop) (hy:(x<d+1∧y=d+1)∨(¬ x<d+1∧y=x))
  (hcl:ChsC b s r r' (d+1) y X false Q) :
  Calls Tryz.prog 218 #[.pointer (some ⟨b,0,none⟩)] w fun e w'=>∃ x',X x'∧e=.returned (.tuple #[.slice none 0 0,.bool false])∧StTo w w' b s r' d x':=by
 obtain⟨c2,c3,fz⟩:=h.cells
 have hr0:Rd b w ((w.setCell ⟨b,2,none⟩ (.int .i64 (d+1))).setCell ⟨b,3,none⟩ (.int .i64 y)).drew:=(((Rd.refl b w).setCell 2 _).setCell 3 _).drew
 rcases hy with⟨hx,hy⟩|⟨hx,hy⟩
 all_goals
  subst hy
  go_enter Tryz.func218,Tryz.ntmps218
  go_wp2
  go_region
  go_wp2_with (first|(go_at_call 122;refine(hcl _ ((h.dep (d+1)).deep _).drew).mono ?_;rintro e w2 ⟨x',hX,⟨g0,n0,c0,hq,rfl⟩,g2,hr2⟩;obtain⟨e2,e3,ef⟩:=g2.cells))
  go_ret2
  exact⟨x',hX,rfl,g2.dep d,((hr0.trans hr2).setCell _ _)⟩
theorem group_2 (w:World) (b:Nat) (s:ByteArray) (r r' r'':List UInt8) (d x y:Int) (X:Int→Prop) (h:St w b s r d x) (d0:0≤d) (d1:d≤200) (Q:World→World→Value→Prop) (hy:(x<d+1∧y=d+1)∨(¬ x<d+1∧y=x))
  (hcl:ChsC b s r r' (d+1) y X true Q) (ht:∀ x',TakC b s d x' 41 r' r'' false) :
  Calls Tryz.prog 218 #[.pointer (some ⟨b,0,none⟩)] w fun e w'=>∃ x',X x'∧e=.returned (.tuple #[.slice none 0 0,.bool false])∧StTo w w' b s r'' d x':=by
 obtain⟨c2,c3,fz⟩:=h.cells
 have hr0:Rd b w ((w.setCell ⟨b,2,none⟩ (.int .i64 (d+1))).setCell ⟨b,3,none⟩ (.int .i64 y)).drew:=(((Rd.refl b w).setCell 2 _).setCell 3 _).drew
 rcases hy with⟨hx,hy⟩|⟨hx,hy⟩
 all_goals
  subst hy
  go_enter Tryz.func218,Tryz.ntmps218
  go_wp2
  go_region
  go_wp2_with (first|(go_at_call 121;refine(ht _ _ (g2.dep d)).mono ?_;rintro e w3 ⟨rfl,g3,hr3⟩)|(go_at_call 122;refine(hcl _ ((h.dep (d+1)).deep _).drew).mono ?_;rintro e w2 ⟨x',hX,⟨g0,n0,c0,hq,rfl⟩,g2,hr2⟩;obtain⟨e2,e3,ef⟩:=g2.cells))
  go_ret2
  exact⟨x',hX,rfl,g3,((hr0.trans hr2).setCell 2 _).trans hr3⟩
theorem group_3 (w:World) (b:Nat) (s:ByteArray) (r r' r'':List UInt8) (d x y:Int) (X:Int→Prop) (h:St w b s r d x) (d0:0≤d) (d1:d≤200) (Q:World→World→Value→Prop) (hy:(x<d+1∧y=d+1)∨(¬ x<d+1∧y=x))
  (hcl:ChsC b s r r' (d+1) y X true Q) (ht:∀ x',TakC b s d x' 41 r' r'' true) :
  Calls Tryz.prog 218 #[.pointer (some ⟨b,0,none⟩)] w fun e w'=>∃ x',X x'∧(∃ g0 n0 c0 w1 w2,Q w1 w2 (.slice g0 n0 c0)∧Rd b w w1∧Rd b w2 w'∧w1.heap.size=w.heap.size∧e=.returned (.tuple #[.slice g0 n0 c0,.bool true]))∧StTo w w' b s r'' d x':=by
 obtain⟨c2,c3,fz⟩:=h.cells
 have hr0:Rd b w ((w.setCell ⟨b,2,none⟩ (.int .i64 (d+1))).setCell ⟨b,3,none⟩ (.int .i64 y)).drew:=(((Rd.refl b w).setCell 2 _).setCell 3 _).drew
 rcases hy with⟨hx,hy⟩|⟨hx,hy⟩
 all_goals
  subst hy
  go_enter Tryz.func218,Tryz.ntmps218
  go_wp2
  go_region
  go_wp2_with (first|(go_at_call 121;refine(ht _ _ (g2.dep d)).mono ?_;rintro e w3 ⟨rfl,g3,hr3⟩)|(go_at_call 122;refine(hcl _ ((h.dep (d+1)).deep _).drew).mono ?_;rintro e w2 ⟨x',hX,⟨g0,n0,c0,hq,rfl⟩,g2,hr2⟩;obtain⟨e2,e3,ef⟩:=g2.cells))
  go_ret2
  exact⟨x',hX,⟨g0,n0,c0,_,w2,hq,hr0,((Rd.refl b w2).setCell 2 _).trans hr3,by simp[World.setCell],rfl⟩,g3,((hr0.trans hr2).setCell 2 _).trans hr3⟩
abbrev zero6:Obj:=.cells #[.slice none 0 0,.int .u64 0,.int .u64 0,.int .u64 0,.int .u64 0,.slice none 0 0] 231
structure Z6 (w:World) (b:Nat):Prop where
 c0:w.cell? ⟨b,0,none⟩=some (.slice none 0 0)
 c1:w.cell? ⟨b,1,none⟩=some (.int .u64 0)
 c2:w.cell? ⟨b,2,none⟩=some (.int .u64 0)
 c3:w.cell? ⟨b,3,none⟩=some (.int .u64 0)
 c4:w.cell? ⟨b,4,none⟩=some (.int .u64 0)
 c5:w.cell? ⟨b,5,none⟩=some (.slice none 0 0)
 fz:∀ o,w.frozen? ⟨b,o,none⟩=false
theorem Z6.of_heap {w w':World}{b:Nat} (h:Z6 w b) (hb:w'.heap[b]?=w.heap[b]?):Z6 w' b:=by
 have hc:∀ o,w'.cell? ⟨b,o,none⟩=w.cell? ⟨b,o,none⟩:=fun o=>by simp[World.cell?,hb]
 have hf:∀ o,w'.frozen? ⟨b,o,none⟩=w.frozen? ⟨b,o,none⟩:=fun o=>by simp[World.frozen?,hb]
 exact⟨(hc _).trans h.c0,(hc _).trans h.c1,(hc _).trans h.c2,(hc _).trans h.c3,(hc _).trans h.c4,(hc _).trans h.c5,fun o=>(hf o).trans (h.fz o)⟩
theorem new6 (w:World):Z6 (w.alloc zero6) w.heap.size:=by
 refine⟨?_,?_,?_,?_,?_,?_,fun o=>?_⟩<;>simp[go_sem]
abbrev atomV (g0:Option Addr) (n0 c0 x0 x1 x2 x3:Nat):Value:=.agg #[.slice g0 n0 c0,.int .u64 x0,.int .u64 x1,.int .u64 x2,.int .u64 x3]
abbrev partV (g0:Option Addr) (n0 c0 x0 x1 x2 x3:Nat) (g1:Option Addr) (n1 c1:Nat):Value:=.agg #[.slice g0 n0 c0,.int .u64 x0,.int .u64 x1,.int .u64 x2,.int .u64 x3,.slice g1 n1 c1]
abbrev AtmC (b:Nat) (s:ByteArray) (r r':List UInt8) (d x:Int) (X:Int→Prop) (ok:Bool) (Q:World→World→Value→Nat→Nat→Nat→Nat→Prop):Prop:=
 ∀ w,St w b s r d x→Calls Tryz.prog 208 #[.pointer (some ⟨b,0,none⟩)] w fun e w'=>∃ x',X x'∧(∃ g0 n0 c0 x0 x1 x2 x3,Q w w' (.slice g0 n0 c0) x0 x1 x2 x3∧e=.returned (.tuple #[atomV g0 n0 c0 x0 x1 x2 x3,.bool ok]))∧StTo w w' b s r' d x'
abbrev CtsC (b:Nat) (s:ByteArray) (r r':List UInt8) (d x:Int) (ok:Bool) (Q:World→World→Value→Prop):Prop:=
 ∀ w,St w b s r d x→Calls Tryz.prog 209 #[.pointer (some ⟨b,0,none⟩)] w fun e w'=>(∃ g0 n0 c0,Q w w' (.slice g0 n0 c0)∧e=.returned (.tuple #[.slice g0 n0 c0,.bool ok]))∧StTo w w' b s r' d x
theorem part_1 (w:World) (b:Nat) (s:ByteArray) (r r':List UInt8) (d x:Int) (X:Int→Prop) (h:St w b s r d x) (Q:World→World→Value→Nat→Nat→Nat→Nat→Prop) (ha:AtmC b s r r' d x X false Q) :
  Calls Tryz.prog 196 #[.pointer (some ⟨b,0,none⟩)] w fun e w'=>∃ x',X x'∧e=.returned (.tuple #[partV none 0 0 0 0 0 0 none 0 0,.bool false])∧StTo w w' b s r' d x':=by
 have hne:=h.ne
 have hlt:=h.lt
 go_enter Tryz.func196,Tryz.ntmps196
 go_wp2_with (go_at_call 208;refine(ha _ (h.alloc _)).mono ?_;rintro e w1 ⟨x',hX,⟨g0,n0,c0,x0,x1,x2,x3,hq,rfl⟩,g1,hr1⟩;have hz1:w.heap.size<w1.heap.size:=(by have:=hr1.size;simp at this;omega);obtain⟨d0,d1,d2,d3,d4,d5,dz⟩:=(new6 w).of_heap (hr1.block w.heap.size (by simp) hne))
 refine bodyPost_ret (v:=.tuple #[partV none 0 0 0 0 0 0 none 0 0,.bool false]) ?_ rfl ?_
 ·simp[results,Tryz.results196,go_sem,d0,d1,d2,d3,d4,d5,hz1]
 ·exact⟨x',hX,rfl,(by(repeat first|(with_reducible refine St.setCell ?_ (by first|exact hlt|(simp;done)|(simp;omega)) _)|(with_reducible refine St.alloc ?_ _)|(with_reducible refine St.drew ?_)|(with_reducible refine St.drewN ?_ _));exact g1),(by(repeat first|(with_reducible refine Rd.setNew ?_ (by first|exact Nat.le_refl _|(simp;done)|(simp;omega)) _)|(with_reducible refine Rd.alloc ?_ _)|(with_reducible refine Rd.drew ?_)|(with_reducible refine Rd.drewN ?_ _));exact hr1.under)⟩
theorem part_2 (w:World) (b:Nat) (s:ByteArray) (r r' r'':List UInt8) (d x:Int) (X:Int→Prop) (ok:Bool) (h:St w b s r d x) (Q:World→World→Value→Nat→Nat→Nat→Nat→Prop) (Q2:World→World→Value→Prop) (ha:AtmC b s r r' d x X true Q) (hc:∀ x',CtsC b s r' r'' d x' ok Q2) :
  Calls Tryz.prog 196 #[.pointer (some ⟨b,0,none⟩)] w fun e w'=>∃ x',X x'∧(∃ g0 n0 c0 x0 x1 x2 x3 g1 n1 c1 w1 w2,Q (w.alloc zero6) w1 (.slice g0 n0 c0) x0 x1 x2 x3∧Q2 (w1.alloc (.cells #[.slice g0 n0 c0,.int .u64 (x0:Nat),.int .u64 (x1:Nat),.int .u64 (x2:Nat),.int .u64 (x3:Nat)] 228)) w2 (.slice g1 n1 c1)∧Rd b (w.alloc zero6) w1∧Rd b w1 w2∧w1.heap.size<w2.heap.size∧(∀ g,w.heap.size<g→w'.heap[g]?=w2.heap[g]?)∧w'.heap.size=w2.heap.size∧e=.returned (.tuple #[partV g0 n0 c0 x0 x1 x2 x3 g1 n1 c1,.bool ok]))∧StTo w w' b s r'' d x':=by
 have hne:=h.ne
 have hlt:=h.lt
 go_enter Tryz.func196,Tryz.ntmps196
 go_wp2_with (first|(go_at_call 209;refine(hc _ _ (g1.alloc _)).mono ?_;rintro e w2 ⟨⟨q0,m0,e0,hq2,rfl⟩,g2,hr2⟩;have hz2:w1.heap.size<w2.heap.size:=(by have:=hr2.size;simp at this;omega);have hz2':w.heap.size<w2.heap.size:=(by omega);obtain⟨d0,d1,d2,d3,d4,d5,dz⟩:=hZ1.of_heap (w':=w2) ((hr2.block w.heap.size (by simp;omega) hne).trans (Below.heap_alloc _ _ _ hz1));have hcell:=hr2.block w1.heap.size (by simp) (by omega);have k0:=cell_kept hcell 0;have k1:=cell_kept hcell 1;have k2:=cell_kept hcell 2;have k3:=cell_kept hcell 3;have k4:=cell_kept hcell 4;simp at k0 k1 k2 k3 k4)|(go_at_call 208;refine(ha _ (h.alloc _)).mono ?_;rintro e w1 ⟨x',hX,⟨g0,n0,c0,x0,x1,x2,x3,hq,rfl⟩,g1,hr1⟩;have hz1:w.heap.size<w1.heap.size:=(by have:=hr1.size;simp at this;omega);have hZ1:=(new6 w).of_heap (hr1.block w.heap.size (by simp) hne)))
 have hr:=((hr1.under).alloc (.cells #[.slice g0 n0 c0,.int .u64 x0,.int .u64 x1,.int .u64 x2,.int .u64 x3] 228)).trans hr2
 refine bodyPost_ret (v:=.tuple #[partV g0 n0 c0 x0 x1 x2 x3 q0 m0 e0,.bool ok]) ?_ rfl ?_
 ·simp[results,Tryz.results196,go_sem,d0,d1,d2,d3,d4,d5,hz2']
 refine⟨x',hX,⟨g0,n0,c0,x0,x1,x2,x3,q0,m0,e0,w1,w2,hq,hq2,hr1,hr2.under,hz2,?_,?_,rfl⟩,(by(repeat first|(with_reducible refine St.setCell ?_ (by first|exact hlt|(simp;done)|(simp;omega)) _)|(with_reducible refine St.alloc ?_ _)|(with_reducible refine St.drew ?_)|(with_reducible refine St.drewN ?_ _));exact g2),(by(repeat first|(with_reducible refine Rd.setNew ?_ (by first|exact Nat.le_refl _|(simp;done)|(simp;omega)) _)|(with_reducible refine Rd.alloc ?_ _)|(with_reducible refine Rd.drew ?_)|(with_reducible refine Rd.drewN ?_ _));exact hr)⟩
 ·intro g hg
  (repeat rw[Below.heap_setCell _ _ _ _ (by simp;omega)])
 ·simp[World.setCell]
structure Lim (d x:Int) (r:List UInt8):Prop where
 d0:0≤d
 dr:d+r.length≤200
 dx:d≤x
 x1:x≤200
theorem up_zero {x d:Int} (h:d≤x):up x d 0=x:=by unfold up;omega
theorem up_up (x d:Int) (a b:Nat):up (up x d a) d b=up x d (max a b):=by unfold up;omega
theorem up_le {x d:Int}{k:Nat} (h:x≤200) (hk:d+k≤200):up x d k≤200:=by unfold up;omega
theorem up_ge (x d:Int) (k:Nat):x≤up x d k:=by unfold up;omega
theorem up_group (x d:Int) (k:Nat):up (max x (d+1)) (d+1) k=up x d (1+k):=by unfold up;omega
def AtmRes (w w':World) (b:Nat) (s:ByteArray) (d x:Int) (e:Ending):Res (List (List Prt)×(Nat→Bool))→Prop
 |.ok p r=>(∃ g0 n0 c0 x0 x1 x2 x3,RepCs w' (From w.heap.size w') p.1 (.slice g0 n0 c0)∧Wd x0 x1 x2 x3 p.2∧e=.returned (.tuple #[atomV g0 n0 c0 x0 x1 x2 x3,.bool true]))∧StTo w w' b s r d (up x d (nestG p.1))
 |.bad r=>∃ x',(∃ g0 n0 c0 x0 x1 x2 x3,e=.returned (.tuple #[atomV g0 n0 c0 x0 x1 x2 x3,.bool false]))∧StTo w w' b s r d x'
def ChsRes (w w':World) (b:Nat) (s:ByteArray) (d x:Int) (e:Ending):Res (List (List Prt))→Prop
 |.ok cs r=>(∃ g0 n0 c0,RepCs w' (From w.heap.size w') cs (.slice g0 n0 c0)∧e=.returned (.tuple #[.slice g0 n0 c0,.bool true]))∧StTo w w' b s r d (up x d (nestCs cs))
 |.bad r=>∃ x',e=.returned (.tuple #[.slice none 0 0,.bool false])∧StTo w w' b s r d x'
def ChnRes (w w':World) (b:Nat) (s:ByteArray) (d x:Int) (e:Ending):Res (List Prt)→Prop
 |.ok ps r=>(∃ g0 n0 c0,RepC w' (From w.heap.size w') ps (.slice g0 n0 c0)∧e=.returned (.tuple #[.slice g0 n0 c0,.bool true]))∧StTo w w' b s r d (up x d (nestC ps))
 |.bad r=>∃ x',e=.returned (.tuple #[.slice none 0 0,.bool false])∧StTo w w' b s r d x'
def PrtRes (w w':World) (b:Nat) (s:ByteArray) (d x:Int) (e:Ending):Res Prt→Prop
 |.ok p r=>(∃ g0 n0 c0 x0 x1 x2 x3 g1 n1 c1,RepP w' (From w.heap.size w') p [.slice g0 n0 c0,.int .u64 (x0:Nat),.int .u64 (x1:Nat),.int .u64 (x2:Nat),.int .u64 (x3:Nat),.slice g1 n1 c1]∧e=.returned (.tuple #[partV g0 n0 c0 x0 x1 x2 x3 g1 n1 c1,.bool true]))∧StTo w w' b s r d (up x d (nestP p))
 |.bad r=>∃ x',(∃ g0 n0 c0 x0 x1 x2 x3 g1 n1 c1,e=.returned (.tuple #[partV g0 n0 c0 x0 x1 x2 x3 g1 n1 c1,.bool false]))∧StTo w w' b s r d x'
def ChoicesK (n:Nat):Prop:=∀ w b s r d x,St w b s r d x→Lim d x r→4*r.length+4≤n→Calls Tryz.prog 122 #[.pointer (some ⟨b,0,none⟩)] w fun e w'=>ChsRes w w' b s d x e (pChoices n r)
def ChainK (n:Nat):Prop:=∀ w b s r d x,St w b s r d x→Lim d x r→4*r.length+3≤n→Calls Tryz.prog 173 #[.pointer (some ⟨b,0,none⟩)] w fun e w'=>ChnRes w w' b s d x e (pChain n r)
def PartK (n:Nat):Prop:=∀ w b s r d x,St w b s r d x→Lim d x r→4*r.length+2≤n→begins r=true→Calls Tryz.prog 196 #[.pointer (some ⟨b,0,none⟩)] w fun e w'=>PrtRes w w' b s d x e (pPart n r)
def AtomK (n:Nat):Prop:=∀ w b s r d x,St w b s r d x→Lim d x r→4*r.length+1≤n→begins r=true→Calls Tryz.prog 208 #[.pointer (some ⟨b,0,none⟩)] w fun e w'=>AtmRes w w' b s d x e (pAtom n r)
theorem pChoices_ne {n:Nat}{r r':List UInt8}{cs:List (List Prt)} (h:pChoices n r=.ok cs r'):cs≠[]:=by
 cases n with
 |zero=>simp[pChoices] at h
 |succ n=>
  simp only[pChoices] at h
  split at h
  ·simp at h
  ·split at h
   ·split at h
    ·injection h with e _;subst e;simp
    ·simp at h
   ·injection h with e _;subst e;simp
theorem nestG_ne {cs:List (List Prt)} (h:cs≠[]):nestG cs=1+nestCs cs:=by
 cases cs with
 |nil=>exact absurd rfl h
 |cons c cs=>rfl
theorem tkB_false {c:UInt8}{r:List UInt8} (h:tkB c r=false):tkR c r=r∧∀ t,r≠c::t:=by
 match r,h with
 |[],_=>exact⟨rfl,fun t=>by simp⟩
 |a::t,h=>
  have ne:a≠c:=by simpa [tkB] using h
  exact⟨by simp[tkR,ne],fun t' e=>by injection e with e _;exact ne e⟩
theorem tkB_true {c:UInt8}{r:List UInt8} (h:tkB c r=true):r=c::tkR c r:=by
 match r,h with
 |a::t,h=>
  have e:a=c:=by simpa [tkB] using h
  subst e;simp[tkR]
theorem repCs_nil (w:World) (S:Nat→Prop):RepCs w S [] (.slice none 0 0):=⟨[],⟨by simp,.inl ⟨rfl,rfl⟩⟩,by simp[RepVs]⟩
theorem group_any (n:Nat) (hK:ChoicesK n) (w:World) (b:Nat) (s:ByteArray) (t:List UInt8) (d x:Int) (h:St w b s t d x) (d0:0≤d) (dr:d+1+t.length≤200) (dx:d≤x) (x1:x≤200) (hn:4*t.length+4≤n) :
  Calls Tryz.prog 218 #[.pointer (some ⟨b,0,none⟩)] w fun e w'=>match pChoices n t with
   |.bad r'=>∃ x',e=.returned (.tuple #[.slice none 0 0,.bool false])∧StTo w w' b s r' d x'
   |.ok cs r'=>match tkB 41 r' with
    |true=>(∃ g0 n0 c0,RepCs w' (From w.heap.size w') cs (.slice g0 n0 c0)∧e=.returned (.tuple #[.slice g0 n0 c0,.bool true]))∧StTo w w' b s (tkR 41 r') d (up x d (nestG cs))
    |false=>∃ x',e=.returned (.tuple #[.slice none 0 0,.bool false])∧StTo w w' b s r' d x':=by
 have hk:=fun w hw=>hK w b s t (d+1) (max x (d+1)) hw ⟨by omega,by omega,by omega,by omega⟩ hn
 have hy:(x<d+1∧max x (d+1)=d+1)∨(¬ x<d+1∧max x (d+1)=x):=by omega
 cases hR:pChoices n t with
 |bad r'=>
  refine(group_1 w b s t r' d x (max x (d+1)) (fun _=>True) h d0 (by omega) (fun _ _ _=>True) hy (fun w hw=>(hk w hw).mono fun e w' g=>?_)).mono fun e w' g=>?_
  ·rw[hR] at g;obtain⟨x',he,g⟩:=g;exact⟨x',trivial,⟨_,_,_,trivial,he⟩,g⟩
  ·obtain⟨x',-,he,g⟩:=g;exact⟨x',he,g⟩
 |ok cs r'=>
  have hcl:ChsC b s t r' (d+1) (max x (d+1)) (fun y=>y=up x d (nestG cs)) true (fun w w' v=>RepCs w' (From w.heap.size w') cs v):=fun w hw=>(hk w hw).mono fun e w' g=>by
   rw[hR] at g
   obtain⟨⟨g0,n0,c0,hq,he⟩,g⟩:=g
   refine⟨_,rfl,⟨g0,n0,c0,hq,he⟩,?_⟩
   rw[nestG_ne (pChoices_ne hR),←up_group];exact g
  have ht:=fun x'=>take_any b s d x' 41 r'
  cases hm:tkB 41 r' with
  |true=>
   rw[hm] at ht
   refine(group_3 w b s t r' _ d x (max x (d+1)) _ h d0 (by omega) _ hy hcl ht).mono fun e w' g=>?_
   obtain⟨x',rfl,⟨g0,n0,c0,w1,w2,hq,hr1,hr2,hsz,he⟩,g⟩:=g
   simp only[hm]
   refine⟨⟨g0,n0,c0,hq.of_heap (fun j hj hlt=>?_),he⟩,g⟩
   have hbl:=h.lt
   exact⟨⟨by have:=hj.1;omega,Nat.lt_of_lt_of_le hj.2 hr2.size⟩,hr2.block j hlt (by have:=hj.1;omega)⟩
  |false=>
   obtain⟨e1,-⟩:=tkB_false hm
   rw[hm,e1] at ht
   refine(group_2 w b s t r' r' d x (max x (d+1)) _ h d0 (by omega) _ hy hcl ht).mono fun e w' g=>?_
   simp only[hm]
   obtain⟨x',-,he,g⟩:=g;exact⟨x',he,g⟩
theorem atom_step (n:Nat) (hK:ChoicesK n):AtomK (n+1):=by
 intro w b s r d x h hl hn hb
 match r,h,hl,hn,hb with
 |c::t,h,hl,hn,hb=>
  obtain⟨d0,dr,dx,x1⟩:=hl
  have hup:up x d 0=x:=up_zero dx
  simp only[List.length_cons] at dr hn
  by_cases c40:c=40
  ·have hg:=fun w (hw:St w b s t d x)=>group_any n hK w b s t d x hw d0 (by omega) dx x1 (by omega)
   cases hR:pChoices n t with
   |bad r'=>
    have hP:pAtom (n+1) (c::t)=.bad r':=by simp only[pAtom,c40,if_true,hR]
    rw[hP]
    refine(atom_group w b s c t r' d x (fun _=>True) h c40 false (fun _ _ _=>True) (fun w hw=>(hg w hw).mono fun e w' g=>?_)).mono fun e w' g=>?_
    ·rw[hR] at g;obtain⟨x',he,g⟩:=g;exact⟨x',trivial,⟨_,_,_,trivial,he⟩,g⟩
    ·obtain⟨x',-,⟨g0,n0,c0,w1,w2,-,-,-,-,-,he⟩,g⟩:=g
     exact⟨x',⟨g0,n0,c0,0,0,0,0,he⟩,g⟩
   |ok cs r'=>
    cases hm:tkB 41 r' with
    |true=>
     have e1:=tkB_true hm
     have hP:pAtom (n+1) (c::t)=.ok (cs,fun _=>false) (tkR 41 r'):=by
      rw[e1] at hR
      simp only[pAtom,c40,if_true,hR]
     rw[hP]
     refine(atom_group w b s c t (tkR 41 r') d x (fun y=>y=up x d (nestG cs)) h c40 true (fun w w' v=>RepCs w' (From w.heap.size w') cs v) (fun w hw=>(hg w hw).mono fun e w' g=>?_)).mono fun e w' g=>?_
     ·rw[hR] at g;simp only[hm] at g
      obtain⟨⟨g0,n0,c0,hq,he⟩,g⟩:=g
      exact⟨_,rfl,⟨g0,n0,c0,hq,he⟩,g⟩
     ·obtain⟨x',rfl,⟨g0,n0,c0,w1,w2,hq,hr1,hh,hsz,hsz2,he⟩,g⟩:=g
      refine⟨⟨g0,n0,c0,0,0,0,0,hq.of_heap (fun j hj hlt=>?_),wd0,he⟩,g⟩
      have:=hj.1
      exact⟨⟨by omega,by omega⟩,hh j (by omega)⟩
    |false=>
     obtain⟨-,e1⟩:=tkB_false hm
     have hP:pAtom (n+1) (c::t)=.bad r':=by
      simp only[pAtom,c40,if_true,hR]
     rw[hP]
     refine(atom_group w b s c t r' d x (fun _=>True) h c40 false (fun _ _ _=>True) (fun w hw=>(hg w hw).mono fun e w' g=>?_)).mono fun e w' g=>?_
     ·rw[hR] at g;simp only[hm] at g;obtain⟨x',he,g⟩:=g;exact⟨x',trivial,⟨_,_,_,trivial,he⟩,g⟩
     ·obtain⟨x',-,⟨g0,n0,c0,w1,w2,-,-,-,-,-,he⟩,g⟩:=g
      exact⟨x',⟨g0,n0,c0,0,0,0,0,he⟩,g⟩
  ·by_cases c91:c=91
   ·skip
    cases hR:pClass t with
    |bad r'=>
     have hP:pAtom (n+1) (c::t)=.bad r':=by simp only[pAtom,hR];rw[if_neg c40,if_pos c91]
     rw[hP]
     refine(atom_class w b s c t r' d x h c91 false (fun _ _ _ _=>True) (fun w hw=>(class_any w b s t d x hw).mono fun e w' g=>?_)).mono fun e w' g=>?_
     ·rw[hR] at g;obtain⟨⟨x0,x1,x2,x3,he⟩,g⟩:=g;exact⟨⟨x0,x1,x2,x3,trivial,he⟩,g⟩
     ·obtain⟨⟨x0,x1,x2,x3,-,he⟩,g⟩:=g;exact⟨x,⟨none,0,0,x0,x1,x2,x3,he⟩,g⟩
    |ok S r'=>
     have hP:pAtom (n+1) (c::t)=.ok ([],S) r':=by simp only[pAtom,hR];rw[if_neg c40,if_pos c91]
     rw[hP]
     refine(atom_class w b s c t r' d x h c91 true (fun x0 x1 x2 x3=>Wd x0 x1 x2 x3 S) (fun w hw=>(class_any w b s t d x hw).mono fun e w' g=>?_)).mono fun e w' g=>?_
     ·rw[hR] at g;exact g
     ·obtain⟨⟨x0,x1,x2,x3,hw,he⟩,g⟩:=g
      exact⟨⟨none,0,0,x0,x1,x2,x3,repCs_nil _ _,hw,he⟩,by simpa [nestG,hup] using g⟩
   ·by_cases c92:c=92
    ·skip
     cases hR:pEscape t with
     |bad r'=>
      have hP:pAtom (n+1) (c::t)=.bad r':=by simp only[pAtom,hR];rw[if_neg c40,if_neg c91,if_pos c92]
      rw[hP]
      refine(atom_escape w b s c t r' d x h c92 false (fun _ _ _ _=>True) (fun w hw=>(escape_any w b s t d x hw).mono fun e w' g=>?_)).mono fun e w' g=>?_
      ·rw[hR] at g;obtain⟨⟨x0,x1,x2,x3,he⟩,g⟩:=g;exact⟨⟨x0,x1,x2,x3,trivial,he⟩,g⟩
      ·obtain⟨⟨x0,x1,x2,x3,-,he⟩,g⟩:=g;exact⟨x,⟨none,0,0,x0,x1,x2,x3,he⟩,g⟩
     |ok S r'=>
      have hP:pAtom (n+1) (c::t)=.ok ([],S) r':=by simp only[pAtom,hR];rw[if_neg c40,if_neg c91,if_pos c92]
      rw[hP]
      refine(atom_escape w b s c t r' d x h c92 true (fun x0 x1 x2 x3=>Wd x0 x1 x2 x3 S) (fun w hw=>(escape_any w b s t d x hw).mono fun e w' g=>?_)).mono fun e w' g=>?_
      ·rw[hR] at g;exact g
      ·obtain⟨⟨x0,x1,x2,x3,hw,he⟩,g⟩:=g
       exact⟨⟨none,0,0,x0,x1,x2,x3,repCs_nil _ _,hw,he⟩,by simpa [nestG,hup] using g⟩
    ·by_cases c46:c=46
     ·have hP:pAtom (n+1) (c::t)=.ok ([],fun n=>!inSpan 10 10 n) t:=by simp only[pAtom];rw[if_neg c40,if_neg c91,if_neg c92,if_pos c46]
      rw[hP]
      refine(atom_dot w b s c t d x h c46).mono fun e w' g=>?_
      obtain⟨⟨x0,x1,x2,x3,hw,he⟩,g⟩:=g
      exact⟨⟨none,0,0,x0,x1,x2,x3,repCs_nil _ _,hw,he⟩,by simpa [nestG,hup] using g⟩
     ·have hP:pAtom (n+1) (c::t)=.ok ([],inSpan c.toNat c.toNat) t:=by simp only[pAtom];rw[if_neg c40,if_neg c91,if_neg c92,if_neg c46]
      rw[hP]
      have m1:((c.toNat:Int)==40)=false:=by simpa using u8_int (b:=40) c40
      have m2:((c.toNat:Int)==91)=false:=by simpa using u8_int (b:=91) c91
      have m3:((c.toNat:Int)==92)=false:=by simpa using u8_int (b:=92) c92
      have m4:((c.toNat:Int)==46)=false:=by simpa using u8_int (b:=46) c46
      refine(atom_plain w b s c t d x h m1 m2 m3 m4).mono fun e w' g=>?_
      obtain⟨⟨x0,x1,x2,x3,hw,he⟩,g⟩:=g
      exact⟨⟨none,0,0,x0,x1,x2,x3,repCs_nil _ _,hw,he⟩,by simpa [nestG,hup] using g⟩
theorem slice_form_of_owns {w:World}{base:Nat}{e:TypeId}{size:Nat}{v:Value}{n:Nat}{xs:List Value} (h:w.ownsRow base e size v n xs):∃ g0 n0 c0,v=.slice g0 n0 c0:=by
 obtain⟨_,h⟩:=h
 rcases h with⟨rfl,_⟩|⟨g,cap,cur,rfl,_⟩
 ·exact⟨_,_,_,rfl⟩
 ·exact⟨_,_,_,rfl⟩
theorem cts_any (b:Nat) (s:ByteArray) (r:List UInt8) (d x:Int):match pCounts (r.length+1) r with
  |.ok cs r'=>CtsC b s r r' d x true (fun w w' v=>RowIn w' (From w.heap.size w') 282 3 v cs.length (cs.flatMap cntCells))
  |.bad r'=>CtsC b s r r' d x false (fun _ _ _=>True):=by
 cases hR:pCounts (r.length+1) r with
 |ok cs r'=>
  intro w hw
  refine(counts_any w b s r d x hw _ hR).mono fun e w' g=>?_
  obtain⟨⟨v,hv,he⟩,g⟩:=g
  obtain⟨g0,n0,c0,rfl⟩:=slice_form_of_owns hv
  exact⟨⟨g0,n0,c0,RowIn.of_owns hv,he⟩,g⟩
 |bad r'=>
  intro w hw
  refine(counts_any w b s r d x hw _ hR).mono fun e w' g=>?_
  exact⟨⟨none,0,0,trivial,g.1⟩,g.2⟩
theorem part_step (n:Nat) (hK:AtomK n):PartK (n+1):=by
 intro w b s r d x h hl hn hb
 have hlt:=h.lt
 have ha:=fun w (hw:St w b s r d x)=>hK w b s r d x hw hl (by omega) hb
 cases hR:pAtom n r with
 |bad r'=>
  have hP:pPart (n+1) r=.bad r':=by simp only[pPart,hR]
  rw[hP]
  refine(part_1 w b s r r' d x (fun _=>True) h (fun _ _ _ _ _ _ _=>True) (fun w hw=>(ha w hw).mono fun e w' g=>?_)).mono fun e w' g=>?_
  ·rw[hR] at g;obtain⟨x',⟨g0,n0,c0,x0,x1,x2,x3,he⟩,g⟩:=g;exact⟨x',trivial,⟨g0,n0,c0,x0,x1,x2,x3,trivial,he⟩,g⟩
  ·obtain⟨x',-,he,g⟩:=g;exact⟨x',⟨none,0,0,0,0,0,0,none,0,0,he⟩,g⟩
 |ok p r'=>
  obtain⟨g,B⟩:=p
  have hA:AtmC b s r r' d x (fun y=>y=up x d (nestG g)) true (fun w w' v x0 x1 x2 x3=>RepCs w' (From w.heap.size w') g v∧Wd x0 x1 x2 x3 B):=fun w hw=>(ha w hw).mono fun e w' q=>by
   rw[hR] at q
   obtain⟨⟨g0,n0,c0,x0,x1,x2,x3,h1,h2,he⟩,q⟩:=q
   exact⟨_,rfl,⟨g0,n0,c0,x0,x1,x2,x3,⟨h1,h2⟩,he⟩,q⟩
  cases hC:pCounts (r'.length+1) r' with
  |bad r''=>
   have hP:pPart (n+1) r=.bad r'':=by simp only[pPart,hR,hC]
   rw[hP]
   have hc:=fun x'=>cts_any b s r' d x'
   simp only[hC] at hc
   refine(part_2 w b s r r' r'' d x _ false h _ _ hA hc).mono fun e w' q=>?_
   obtain⟨x',-,⟨g0,n0,c0,x0,x1,x2,x3,g1,n1,c1,w1,w2,-,-,-,-,-,-,-,he⟩,q⟩:=q
   exact⟨x',⟨g0,n0,c0,x0,x1,x2,x3,g1,n1,c1,he⟩,q⟩
  |ok cs r''=>
   have hP:pPart (n+1) r=.ok (.mk g B cs) r'':=by simp only[pPart,hR,hC]
   rw[hP]
   have hc:=fun x'=>cts_any b s r' d x'
   simp only[hC] at hc
   refine(part_2 w b s r r' r'' d x _ true h _ _ hA hc).mono fun e w' q=>?_
   obtain⟨x',rfl,⟨g0,n0,c0,x0,x1,x2,x3,g1,n1,c1,w1,w2,⟨q1,q2⟩,q3,hr1,hr2,hz,hh,hsz,he⟩,q⟩:=q
   have hs1:=hr1.size
   simp only[World.size_alloc] at hs1
   refine⟨⟨g0,n0,c0,x0,x1,x2,x3,g1,n1,c1,?_,he⟩,by rw[nestP_eq];exact q⟩
   simp only[RepP]
   refine⟨_,x0,x1,x2,x3,_,rfl,?_,q2,?_⟩
   ·obtain⟨vs,hv⟩:=q1.of_heap (w':=w') (S':=From w.heap.size w') (fun j hj hlt'=>by
     have h1:=hj.1
     simp only[World.size_alloc] at h1
     exact⟨⟨by omega,by omega⟩,(hh j (by omega)).trans (hr2.block j hlt' (by omega))⟩)
    exact⟨vs,hv⟩
   ·exact q3.of_heap (fun j hj hlt'=>by
     have h1:=hj.1
     simp only[World.size_alloc] at h1
     exact⟨⟨by omega,by omega⟩,hh j (by omega)⟩)
theorem Tryz.infoPart:(Tryz.prog.info? 231).map (fun i=>(i.zero,i.size,i.bytes))=some (some (.agg #[.slice none 0 0,.int .u64 0,.int .u64 0,.int .u64 0,.int .u64 0,.slice none 0 0]),6,80):=by kernel_rfl
def preL (acc:List Prt):Res (List Prt)→Res (List Prt)
 |.ok cs r=>.ok (acc++cs) r
 |.bad r=>.bad r
theorem nestC_snoc (ps:List Prt) (p:Prt):nestC (ps++[p])=max (nestC ps) (nestP p):=by
 induction ps with
 |nil=>simp[nestC]
 |cons q ps ih=>simp only[List.cons_append,nestC,ih];omega
structure ChnAt (w w':World) (b:Nat) (s:ByteArray) (d x:Int) (R0:Res (List Prt)) (n:Nat) (acc:List Prt) (css:List (List Value)) (v:Value) (r:List UInt8):Prop where
 st:St w' b s r d (up x d (nestC acc))
 rd:Rd b w w'
 own:w'.ownsRow w.heap.size 231 6 v acc.length css.flatten
 rep:RepPs w' (fun g=>From w.heap.size w' g∧v.ownBlock≠some g) acc css
 len:acc.length+r.length≤200
 dep:d+nestC acc≤200
 lim:0≤d∧d+r.length≤200
 hn:4*r.length+3≤n
 heq:preL acc (pChain n r)=R0
theorem chain_rep {w w' w2 w3 w4:World}{b:Nat}{acc:List Prt}{css:List (List Value)}{v v':Value}{p:Prt}{cells:List Value} (hlt:b<w.heap.size)
  (hrd:Rd b w w') (hown:w'.ownsRow w.heap.size 231 6 v acc.length css.flatten) (hrep:RepPs w' (fun g=>From w.heap.size w' g∧v.ownBlock≠some g) acc css)
  (hr2:Rd b w' w2) (hp:RepP w2 (From w'.heap.size w2) p cells) (hr3:Rd b w2 w3) (hgr:w3.grownBy w4 v.ownBlock) (hob:v'.ownBlock=v.ownBlock∨v'.ownBlock=some w3.heap.size) :
  RepPs w4 (fun g=>From w.heap.size w4 g∧v'.ownBlock≠some g) (acc++[p]) (css++[cells]):=by
 have hv:∀ k,v.ownBlock=some k→w.heap.size≤k∧k<w'.heap.size:=fun k hk=>hown.lt k hk
 have h1:=hrd.size
 have h2:=hr2.size
 have h3:=hr3.size
 have h4:=hgr.size
 refine RepPs.snoc (RepP.of_heap (fun g hg hlt'=>?_) p cells hp) (RepPs.of_heap (fun g hg hlt'=>?_) acc css hrep)
 ·have hg1:=hg.1
  have ne:v.ownBlock≠some g:=fun e=>by have:=(hv g e).2;omega
  refine⟨⟨⟨by omega,by omega⟩,?_⟩,(hgr.block g (by omega) (fun e=>ne e.symm)).trans (hr3.block g hlt' (by omega))⟩
  rcases hob with e|e<;>rw[e]
  ·exact ne
  ·intro q;injection q with q;omega
 ·obtain⟨hg1,hg2⟩:=hg
  have hgb:g≠b:=by have:=hg1.1;omega
  refine⟨⟨⟨hg1.1,by omega⟩,?_⟩,(hgr.block g (by omega) (fun e=>hg2 e.symm)).trans ((hr3.block g (by omega) hgb).trans (hr2.block g hlt' hgb))⟩
  rcases hob with e|e<;>rw[e]
  ·exact hg2
  ·intro q;injection q with q;have:=hg1.2;omega
theorem chain_step (n0:Nat) (hK:∀ n,n<n0→PartK n) (w:World) (b:Nat) (s:ByteArray) (r:List UInt8) (d x:Int) (h:St w b s r d x) (hl:Lim d x r) (hn0:4*r.length+3≤n0) (R0:Res (List Prt)) (hR0:pChain n0 r=R0) :
  Calls Tryz.prog 173 #[.pointer (some ⟨b,0,none⟩)] w fun e w'=>ChnRes w w' b s d x e R0:=by
 have hne:=h.ne
 have hlt:=h.lt
 obtain⟨d0,dr,dx,x1⟩:=hl
 obtain⟨i0,hi,hz0,hz1,hz2⟩:=info_parts Tryz.infoPart
 have HK:Hid (∀ n,n<n0→PartK n):=hK
 clear hK
 go_enter Tryz.func173,Tryz.ntmps173
 go_wp2
 refine wp_scope_once 0 (fun a' w'=>∃ n acc css v r',n≤n0∧ChnAt w w' b s d x R0 n acc css v r'∧∃ u5 u6 u7 u8 u9 u10 u11 u12 u13 u14 u15 u16 u17 u18 u19 u20 u21,a'={tmps:=#[.pointer (some ⟨b,0,none⟩),undef,.slice none 0 0,.bool false,v,u5,u6,u7,u8,u9,u10,u11,u12,u13,u14,u15,u16,u17,u18,u19,u20,u21],defers:=[]}) (fun _ w'=>leftOf b s w') rfl ?_ ?_
 ·intro hp
  have HP:Hid _:=hp
  clear hp
  go_wp2
  go_step3
  refine ‹∀ a w,Code.wp _ _ _ a w→_› _ _ (HP.out _ _ ⟨n0,[],[],.slice none 0 0,r,Nat.le_refl _,⟨?_,Rd.refl _ _,World.ownsRow_nil _ _ _ _,?_,?_,?_,⟨d0,dr⟩,hn0,?_⟩,_,_,_,_,_,_,_,_,_,_,_,_,_,_,_,_,_,rfl⟩)
  ·rw[show nestC []=0 from by simp[nestC],up_zero dx];exact h
  ·simp[RepPs]
  ·have:=h.len;simpa using this
  ·simp[nestC];omega
  ·rw[hR0];cases R0<;>rfl
 ·rintro a' w' ⟨n,acc,css,v,r',hnn,⟨hst,hrd,hown,hrep,hlen,hdep,⟨d0',hlim⟩,hn,heq⟩,u5,u6,u7,u8,u9,u10,u11,u12,u13,u14,u15,u16,u17,u18,u19,u20,u21,rfl⟩
  obtain⟨n',rfl⟩:∃ n',n=n'+1:=⟨n-1,by omega⟩
  have HO:Hid (w'.ownsRow w.heap.size 231 6 v acc.length css.flatten):=hown
  have HR:Hid (RepPs w' (fun g=>From w.heap.size w' g∧v.ownBlock≠some g) acc css):=hrep
  clear hown hrep
  cases hB:begins r' with
  |false=>
   have hba:=fun w hw=>beginsAtom_any w b s r' d (up x d (nestC acc)) hw
   rw[hB] at hba
   have HQ:Hid (R0=.ok acc r'):=by show _=_;rw[←heq];simp[pChain,hB,preL]
   clear heq hB
   obtain⟨q0,q1,q2,hvq⟩:=slice_form_of_owns HO.out
   go_wp2_with (go_at_call 195;refine(hba _ hst).mono ?_;rintro e w2 ⟨rfl,g2,hr2⟩)
   simp only[Exit.jump]
   go_ret2
   rw[HQ.out]
   refine⟨⟨q0,q1,q2,⟨css,?_,?_⟩,rfl⟩,g2,hrd.trans hr2⟩
   ·rw[←hvq];exact RowIn.of_owns (ownsRow_rd HO.out hr2 hlt)
   ·exact RepPs.of_heap (fun g hg hlt'=>⟨⟨hg.1.1,Nat.lt_of_lt_of_le hlt' hr2.size⟩,hr2.block g hlt' (by have:=hg.1.1;omega)⟩) acc css HR.out
  |true=>
   have hba:=fun w hw=>beginsAtom_any w b s r' d (up x d (nestC acc)) hw
   rw[hB] at hba
   have hpt:=fun w hw=>HK.out n' (by omega) w b s r' d (up x d (nestC acc)) hw ⟨d0,hlim,by have:=up_ge x d (nestC acc);omega,up_le x1 hdep⟩ (by omega) hB
   cases hP:pPart n' r' with
   |bad r2=>
    rw[hP] at hpt
    have HQ:Hid (R0=.bad r2):=by show _=_;rw[←heq];simp[pChain,hB,hP,preL]
    clear heq hB hP
    go_wp2_with (first|(go_at_call 196;refine(hpt _ g2).mono ?_;rintro e w3 ⟨x',⟨g0,m0,c0,y0,y1,y2,y3,g1,m1,c1,rfl⟩,g3,hr3⟩)|(go_at_call 195;refine(hba _ hst).mono ?_;rintro e w2 ⟨rfl,g2,hr2⟩))
    simp only[Exit.jump]
    go_ret2
    rw[HQ.out]
    exact⟨x',rfl,g3.alloc _,((hrd.trans hr2).trans hr3).alloc _⟩
   |ok p r2=>
    rw[hP] at hpt
    have hlp:=(pLen n').2.2.1 _ _ _ hP
    have HQ:Hid (preL (acc++[p]) (pChain n' r2)=R0):=by
     show _=_
     rw[←heq]
     simp only[pChain,hB,hP,if_true]
     cases pChain n' r2<;>simp[preL]
    clear heq hB hP
    go_wp2_with (first|(at_builtin;refine wpList_append_own_at _ rfl (.tmp 18) (.tmp 20) 225 rfl w.heap.size 231 i0 (.agg #[.slice none 0 0,.int .u64 0,.int .u64 0,.int .u64 0,.int .u64 0,.slice none 0 0]) 6 80 Tryz.underlying225 hi hz0 hz1 hz2 rfl (by decide) v acc.length css.flatten rfl (((ownsRow_rd (ownsRow_rd HO.out hr2 hlt) hr3 hlt).alloc _).alloc _) ⟨w3.heap.size+1,0,none⟩ 1 1 [.slice g0 m0 c0,.int .u64 y0,.int .u64 y1,.int .u64 y2,.int .u64 y3,.slice g1 m1 c1] rfl rfl ?c1 ?c2 ?c3 ?c4 ?c5 ?_)|(go_at_call 196;refine(hpt _ g2).mono ?_;rintro e w3 ⟨⟨g0,m0,c0,y0,y1,y2,y3,g1,m1,c1,hrp,rfl⟩,g3,hr3⟩;have HRP:Hid _:=hrp;clear hrp)|(go_at_call 195;refine(hba _ hst).mono ?_;rintro e w2 ⟨rfl,g2,hr2⟩))
    case c1=>
     intro j u hj
     match j,hj with
     |0,hj=>simp at hj;subst hj;simp[Addr.add,go_sem]
     |1,hj=>simp at hj;subst hj;simp[Addr.add,go_sem]
     |2,hj=>simp at hj;subst hj;simp[Addr.add,go_sem]
     |3,hj=>simp at hj;subst hj;simp[Addr.add,go_sem]
     |4,hj=>simp at hj;subst hj;simp[Addr.add,go_sem]
     |5,hj=>simp at hj;subst hj;simp[Addr.add,go_sem]
    case c2=>intro u hu;simp at hu;rcases hu with rfl|rfl|rfl|rfl|rfl|rfl<;>rfl
    case c3=>unfold maxLen;omega
    case c4=>omega
    case c5=>have:=((hrd.trans hr2).trans hr3).size;simp;omega
    intro v' w4 hown4 hgr _ hob
    have hrow:∀ k,v.ownBlock=some k→w.heap.size≤k:=fun k hk=>(HO.out.lt k hk).1
    have HR4:Hid _:=chain_rep (b:=b) (v':=v') (w:=w) (w':=w') (w2:=w3) (p:=p) (cells:=[.slice g0 m0 c0,.int .u64 y0,.int .u64 y1,.int .u64 y2,.int .u64 y3,.slice g1 m1 c1]) hlt hrd HO.out HR.out (hr2.trans hr3) (RepP.of_heap (fun g hg hlt'=>⟨⟨by have:=hg.1;have:=hr2.size;omega,hlt'⟩,rfl⟩) p _ HRP.out) (((Rd.refl b w3).alloc _).alloc _) hgr (by simpa using hob)
    have HO4:Hid (w4.ownsRow w.heap.size 231 6 v' (acc++[p]).length (css++[([.slice g0 m0 c0,.int .u64 y0,.int .u64 y1,.int .u64 y2,.int .u64 y3,.slice g1 m1 c1]:List Value)]).flatten):=by
     show World.ownsRow _ _ _ _ _ _ _
     simpa using hown4
    have g4:St w4 b s r2 d (up (up x d (nestC acc)) d (nestP p)):=((g3.alloc _).alloc _).grown hgr (fun k hk=>by have:=hrow k hk;omega)
    have hr4:Rd b w w4:=((((hrd.trans hr2).trans hr3).alloc _).alloc _).grown hgr hrow
    clear hown4 hgr hob
    go_wp2
    go_step3
    refine⟨rfl,⟨n',acc++[p],_,v',r2,by omega,⟨?_,hr4,HO4.out,HR4.out,by simp;omega,by rw[nestC_snoc];omega,⟨d0,by omega⟩,by omega,HQ.out⟩,_,_,_,_,_,_,_,_,_,_,_,_,_,_,_,_,_,rfl⟩,?_⟩
    ·rw[nestC_snoc,←up_up];exact g4
    ·rw[g4.left,hst.left];omega
theorem Tryz.infoChain:(Tryz.prog.info? 225).map (fun i=>(i.zero,i.size,i.bytes))=some (some (.slice none 0 0),1,24):=by kernel_rfl
def preCs (acc:List (List Prt)):Res (List (List Prt))→Res (List (List Prt))
 |.ok cs r=>.ok (acc++cs) r
 |.bad r=>.bad r
theorem nestCs_snoc (cs:List (List Prt)) (c:List Prt):nestCs (cs++[c])=max (nestCs cs) (nestC c):=by
 induction cs with
 |nil=>simp[nestCs]
 |cons q ps ih=>simp only[List.cons_append,nestCs,ih];omega
structure ChsAt (w w':World) (b:Nat) (s:ByteArray) (d x:Int) (R0:Res (List (List Prt))) (n:Nat) (acc:List (List Prt)) (vs:List Value) (v:Value) (r:List UInt8):Prop where
 st:St w' b s r d (up x d (nestCs acc))
 rd:Rd b w w'
 own:w'.ownsRow w.heap.size 225 1 v acc.length vs
 rep:RepVs w' (fun g=>From w.heap.size w' g∧v.ownBlock≠some g) acc vs
 len:acc.length+r.length≤200
 dep:d+nestCs acc≤200
 lim:0≤d∧d+r.length≤200
 hn:4*r.length+4≤n
 heq:preCs acc (pChoices n r)=R0
theorem choices_rep {w w' w2 w3 w4:World}{b:Nat}{acc:List (List Prt)}{vs:List Value}{v v':Value}{p:List Prt}{cv:Value} (hlt:b<w.heap.size)
  (hrd:Rd b w w') (hown:w'.ownsRow w.heap.size 225 1 v acc.length vs) (hrep:RepVs w' (fun g=>From w.heap.size w' g∧v.ownBlock≠some g) acc vs)
  (hr2:Rd b w' w2) (hp:RepC w2 (From w'.heap.size w2) p cv) (hr3:Rd b w2 w3) (hgr:w3.grownBy w4 v.ownBlock) (hob:v'.ownBlock=v.ownBlock∨v'.ownBlock=some w3.heap.size) :
  RepVs w4 (fun g=>From w.heap.size w4 g∧v'.ownBlock≠some g) (acc++[p]) (vs++[cv]):=by
 have hv:∀ k,v.ownBlock=some k→w.heap.size≤k∧k<w'.heap.size:=fun k hk=>hown.lt k hk
 have h1:=hrd.size
 have h2:=hr2.size
 have h3:=hr3.size
 have h4:=hgr.size
 refine RepVs.snoc (hp.of_heap (fun g hg hlt'=>?_)) (RepVs.of_heap (fun g hg hlt'=>?_) acc vs hrep)
 ·have hg1:=hg.1
  have ne:v.ownBlock≠some g:=fun e=>by have:=(hv g e).2;omega
  refine⟨⟨⟨by omega,by omega⟩,?_⟩,(hgr.block g (by omega) (fun e=>ne e.symm)).trans (hr3.block g hlt' (by omega))⟩
  rcases hob with e|e<;>rw[e]
  ·exact ne
  ·intro q;injection q with q;omega
 ·obtain⟨hg1,hg2⟩:=hg
  have hgb:g≠b:=by have:=hg1.1;omega
  refine⟨⟨⟨hg1.1,by omega⟩,?_⟩,(hgr.block g (by omega) (fun e=>hg2 e.symm)).trans ((hr3.block g (by omega) hgb).trans (hr2.block g hlt' hgb))⟩
  rcases hob with e|e<;>rw[e]
  ·exact hg2
  ·intro q;injection q with q;have:=hg1.2;omega
theorem choices_step (n0:Nat) (hK:∀ n,n<n0→ChainK n) (w:World) (b:Nat) (s:ByteArray) (r:List UInt8) (d x:Int) (h:St w b s r d x) (hl:Lim d x r) (hn0:4*r.length+4≤n0) (R0:Res (List (List Prt))) (hR0:pChoices n0 r=R0) :
  Calls Tryz.prog 122 #[.pointer (some ⟨b,0,none⟩)] w fun e w'=>ChsRes w w' b s d x e R0:=by
 have hne:=h.ne
 have hlt:=h.lt
 obtain⟨d0,dr,dx,x1⟩:=hl
 obtain⟨i0,hi,hz0,hz1,hz2⟩:=info_parts Tryz.infoChain
 have HK:Hid (∀ n,n<n0→ChainK n):=hK
 clear hK
 go_enter Tryz.func122,Tryz.ntmps122
 go_wp2
 refine wp_scope_once 0 (fun a' w'=>∃ n acc vs v r',n≤n0∧ChsAt w w' b s d x R0 n acc vs v r'∧∃ u5 u6 u7 u8 u9 u10 u11 u12 u13 u14 u15 u16 u17 u18 u19 u20,a'={tmps:=#[.pointer (some ⟨b,0,none⟩),undef,.slice none 0 0,.bool false,v,u5,u6,u7,u8,u9,u10,u11,u12,u13,u14,u15,u16,u17,u18,u19,u20],defers:=[]}) (fun _ w'=>leftOf b s w') rfl ?_ ?_
 ·intro hp
  have HP:Hid _:=hp
  clear hp
  go_wp2
  go_step3
  refine ‹∀ a w,Code.wp _ _ _ a w→_› _ _ (HP.out _ _ ⟨n0,[],[],.slice none 0 0,r,Nat.le_refl _,⟨?_,Rd.refl _ _,World.ownsRow_nil _ _ _ _,?_,?_,?_,⟨d0,dr⟩,hn0,?_⟩,_,_,_,_,_,_,_,_,_,_,_,_,_,_,_,_,rfl⟩)
  ·rw[show nestCs []=0 from by simp[nestCs],up_zero dx];exact h
  ·simp[RepVs]
  ·have:=h.len;simpa using this
  ·simp[nestCs];omega
  ·rw[hR0];cases R0<;>rfl
 ·rintro a' w' ⟨n,acc,vs,v,r',hnn,⟨hst,hrd,hown,hrep,hlen,hdep,⟨d0',hlim⟩,hn,heq⟩,u5,u6,u7,u8,u9,u10,u11,u12,u13,u14,u15,u16,u17,u18,u19,u20,rfl⟩
  obtain⟨n',rfl⟩:∃ n',n=n'+1:=⟨n-1,by omega⟩
  have HO:Hid (w'.ownsRow w.heap.size 225 1 v acc.length vs):=hown
  have HR:Hid (RepVs w' (fun g=>From w.heap.size w' g∧v.ownBlock≠some g) acc vs):=hrep
  clear hown hrep
  have hpt:=fun w hw=>HK.out n' (by omega) w b s r' d (up x d (nestCs acc)) hw ⟨d0,hlim,by have:=up_ge x d (nestCs acc);omega,up_le x1 hdep⟩ (by omega)
  cases hP:pChain n' r' with
  |bad r2=>
   rw[hP] at hpt
   have HQ:Hid (R0=.bad r2):=by show _=_;rw[←heq];simp[pChoices,hP,preCs]
   clear heq hP
   go_wp2_with (go_at_call 173;refine(hpt _ hst).mono ?_;rintro e w3 ⟨x',rfl,g3,hr3⟩)
   simp only[Exit.jump]
   go_ret2
   rw[HQ.out]
   exact⟨x',rfl,g3,hrd.trans hr3⟩
  |ok p r2=>
   rw[hP] at hpt
   have hlp:=(pLen n').2.1 _ _ _ hP
   have ht:=take_any b s d (up (up x d (nestCs acc)) d (nestC p)) 124 r2
   cases hm:tkB 124 r2 with
   |false=>
    obtain⟨e1,e2⟩:=tkB_false hm
    rw[hm,e1] at ht
    have HQ:Hid (R0=.ok (acc++[p]) r2):=by
     show _=_
     rw[←heq]
     simp only[pChoices,hP]
     rfl
    clear heq hP hm e1 e2
    go_wp2_with (first|(go_at_call 121;refine(ht _ g4).mono ?_;rintro e w5 ⟨rfl,g5,hr5⟩)|(at_builtin;refine wpList_append_own_at _ rfl (.tmp 14) (.tmp 16) 85 rfl w.heap.size 225 i0 (.slice none 0 0) 1 24 Tryz.underlying85 hi hz0 hz1 hz2 rfl (by decide) v acc.length vs rfl ((ownsRow_rd HO.out hr3 hlt).alloc _) ⟨w3.heap.size,0,none⟩ 1 1 [.slice g0 m0 c0] rfl rfl ?c1 ?c2 ?c3 ?c4 ?c5 ?_)|(go_at_call 173;refine(hpt _ hst).mono ?_;rintro e w3 ⟨⟨g0,m0,c0,hrp,rfl⟩,g3,hr3⟩;have HRP:Hid _:=hrp;clear hrp))
    case c1=>
     intro j u hj
     match j,hj with
     |0,hj=>simp at hj;subst hj;simp[Addr.add,go_sem]
    case c2=>intro u hu;simp at hu;subst hu;rfl
    case c3=>unfold maxLen;omega
    case c4=>omega
    case c5=>have:=(hrd.trans hr3).size;simp;omega
    intro v' w4 hown4 hgr _ hob
    have hrow:∀ k,v.ownBlock=some k→w.heap.size≤k:=fun k hk=>(HO.out.lt k hk).1
    have HR4:Hid _:=choices_rep (b:=b) (v':=v') (w:=w) (w':=w') (w2:=w3) (p:=p) (cv:=.slice g0 m0 c0) hlt hrd HO.out HR.out hr3 HRP.out ((Rd.refl b w3).alloc _) hgr (by simpa using hob)
    obtain⟨q0,q1,q2,hvq⟩:=slice_form_of_owns hown4
    subst hvq
    have HO4:Hid (w4.ownsRow w.heap.size 225 1 (.slice q0 q1 q2) (acc++[p]).length (vs++[.slice g0 m0 c0])):=by
     show World.ownsRow _ _ _ _ _ _ _
     simpa using hown4
    have g4:St w4 b s r2 d (up (up x d (nestCs acc)) d (nestC p)):=(g3.alloc _).grown hgr (fun k hk=>by have:=hrow k hk;omega)
    have hr4:Rd b w w4:=((hrd.trans hr3).alloc _).grown hgr hrow
    clear hown4 hgr hob
    go_wp2_with (go_at_call 121;refine(ht _ g4).mono ?_;rintro e w5 ⟨rfl,g5,hr5⟩)
    simp only[Exit.jump]
    go_ret2
    rw[HQ.out]
    refine⟨⟨q0,q1,q2,⟨vs++[.slice g0 m0 c0],?_,?_⟩,rfl⟩,?_,hr4.trans hr5⟩
    ·exact RowIn.of_owns (ownsRow_rd HO4.out hr5 hlt)
    ·exact RepVs.of_heap (fun g hg hlt'=>⟨⟨hg.1.1,Nat.lt_of_lt_of_le hlt' hr5.size⟩,hr5.block g hlt' (by have:=hg.1.1;omega)⟩) _ _ HR4.out
    ·rw[nestCs_snoc,←up_up];exact g5
   |true=>
    have e1:=tkB_true hm
    rw[hm] at ht
    have hl2:r2.length=(tkR 124 r2).length+1:=by rw[e1];simp[tkR]
    have HQ:Hid (preCs (acc++[p]) (pChoices n' (tkR 124 r2))=R0):=by
     show _=_
     rw[←heq]
     rw[e1] at hP
     simp only[pChoices,hP]
     cases pChoices n' (tkR 124 r2)<;>simp[preCs]
    clear heq hP hm e1
    go_wp2_with (first|(go_at_call 121;refine(ht _ g4).mono ?_;rintro e w5 ⟨rfl,g5,hr5⟩)|(at_builtin;refine wpList_append_own_at _ rfl (.tmp 14) (.tmp 16) 85 rfl w.heap.size 225 i0 (.slice none 0 0) 1 24 Tryz.underlying85 hi hz0 hz1 hz2 rfl (by decide) v acc.length vs rfl ((ownsRow_rd HO.out hr3 hlt).alloc _) ⟨w3.heap.size,0,none⟩ 1 1 [.slice g0 m0 c0] rfl rfl ?c1 ?c2 ?c3 ?c4 ?c5 ?_)|(go_at_call 173;refine(hpt _ hst).mono ?_;rintro e w3 ⟨⟨g0,m0,c0,hrp,rfl⟩,g3,hr3⟩;have HRP:Hid _:=hrp;clear hrp))
    case c1=>
     intro j u hj
     match j,hj with
     |0,hj=>simp at hj;subst hj;simp[Addr.add,go_sem]
    case c2=>intro u hu;simp at hu;subst hu;rfl
    case c3=>unfold maxLen;omega
    case c4=>omega
    case c5=>have:=(hrd.trans hr3).size;simp;omega
    intro v' w4 hown4 hgr _ hob
    have hrow:∀ k,v.ownBlock=some k→w.heap.size≤k:=fun k hk=>(HO.out.lt k hk).1
    have HR4:Hid _:=choices_rep (b:=b) (v':=v') (w:=w) (w':=w') (w2:=w3) (p:=p) (cv:=.slice g0 m0 c0) hlt hrd HO.out HR.out hr3 HRP.out ((Rd.refl b w3).alloc _) hgr (by simpa using hob)
    obtain⟨q0,q1,q2,hvq⟩:=slice_form_of_owns hown4
    subst hvq
    have HO4:Hid (w4.ownsRow w.heap.size 225 1 (.slice q0 q1 q2) (acc++[p]).length (vs++[.slice g0 m0 c0])):=by
     show World.ownsRow _ _ _ _ _ _ _
     simpa using hown4
    have g4:St w4 b s r2 d (up (up x d (nestCs acc)) d (nestC p)):=(g3.alloc _).grown hgr (fun k hk=>by have:=hrow k hk;omega)
    have hr4:Rd b w w4:=((hrd.trans hr3).alloc _).grown hgr hrow
    clear hown4 hgr hob
    go_wp2_with (go_at_call 121;refine(ht _ g4).mono ?_;rintro e w5 ⟨rfl,g5,hr5⟩)
    go_step3
    refine⟨rfl,⟨n',acc++[p],vs++[.slice g0 m0 c0],.slice q0 q1 q2,tkR 124 r2,by omega,⟨?_,hr4.trans hr5,ownsRow_rd HO4.out hr5 hlt,?_,by simp;omega,by rw[nestCs_snoc];omega,⟨d0,by omega⟩,by omega,HQ.out⟩,_,_,_,_,_,_,_,_,_,_,_,_,_,_,_,_,rfl⟩,?_⟩
    ·rw[nestCs_snoc,←up_up];exact g5
    ·exact RepVs.of_heap (fun g hg hlt'=>⟨⟨⟨hg.1.1,Nat.lt_of_lt_of_le hlt' hr5.size⟩,hg.2⟩,hr5.block g hlt' (by have:=hg.1.1;omega)⟩) _ _ HR4.out
    ·rw[g5.left,hst.left];omega
theorem all_K (n:Nat):ChoicesK n∧ChainK n∧PartK n∧AtomK n:=by
 induction n using Nat.strongRecOn with
 |_ n ih=>
  refine⟨?_,?_,?_,?_⟩
  ·intro w b s r d x h hl hn
   exact choices_step n (fun m hm=>(ih m hm).2.1) w b s r d x h hl hn _ rfl
  ·intro w b s r d x h hl hn
   exact chain_step n (fun m hm=>(ih m hm).2.2.1) w b s r d x h hl hn _ rfl
  ·cases n with
   |zero=>intro w b s r d x h hl hn;omega
   |succ n=>exact part_step n (ih n (Nat.lt_succ_self _)).2.2.2
  ·cases n with
   |zero=>intro w b s r d x h hl hn;omega
   |succ n=>exact atom_step n (ih n (Nat.lt_succ_self _)).1
end Go.Proofs.YtbjabpodkaokjaaGreatDoor.Sx

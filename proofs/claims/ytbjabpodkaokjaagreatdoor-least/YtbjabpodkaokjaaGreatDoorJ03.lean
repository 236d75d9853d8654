import Derived.Test.YtbjabpodkaokjaaGreatDoorProg
import Derived.WalkKit
import Derived.Below
import Derived.RowKit
import Derived.KernelRfl
import Derived.BigRegion
import Derived.BigQuiet
import Derived.Test.YtbjabpodkaokjaaGreatDoorJ01
import Derived.Test.YtbjabpodkaokjaaGreatDoorJ02
import Derived.Maps.Own
import Derived.Deep.RegionHeld3
import Derived.Deep.RegionLaw
import Derived.Deep.QuietTactic
import Derived.DeepKeys4
import Derived.OwnWalk
import Derived.Lib.LazyBuf
import Derived.Great.BuildSlice
set_option linter.unusedVariables false
set_option linter.unusedSimpArgs false
set_option maxHeartbeats 4000000
set_option maxRecDepth 100000
namespace Go.Proofs.YtbjabpodkaokjaaGreatDoor
open Go.RowKit
theorem ret_bool {a b:Bool} (h:a=b):Ending.returned (.bool a)=.returned (.bool b):=by rw[h]
def inSpan (lo hi:Nat) (n:Nat):Bool:=decide (lo≤n)&&decide (n≤hi)
def orS (A B:Nat→Bool) (n:Nat):Bool:=A n||B n
structure Wd (x0 x1 x2 x3:Nat) (S:Nat→Bool):Prop where
 l0:x0<18446744073709551616
 l1:x1<18446744073709551616
 l2:x2<18446744073709551616
 l3:x3<18446744073709551616
 b0:∀ n,n<64→x0.testBit n=S n
 b1:∀ n,n<64→x1.testBit n=S (64+n)
 b2:∀ n,n<64→x2.testBit n=S (128+n)
 b3:∀ n,n<64→x3.testBit n=S (192+n)
structure SetAt (w:World) (b off:Nat) (S:Nat→Bool) (x0 x1 x2 x3:Nat):Prop where
 wd:Wd x0 x1 x2 x3 S
 c0:w.cell? ⟨b,off,none⟩=some (.int .u64 x0)
 c1:w.cell? ⟨b,off+1,none⟩=some (.int .u64 x1)
 c2:w.cell? ⟨b,off+2,none⟩=some (.int .u64 x2)
 c3:w.cell? ⟨b,off+3,none⟩=some (.int .u64 x3)
 fz:∀ o,w.frozen? ⟨b,o,none⟩=false
structure Four (b off:Nat) (w w':World):Prop where
 os:w'.os=w.os
 tape:w'.tape=w.tape
 output:w'.output=w.output
 size:w.heap.size≤w'.heap.size
 block:∀ k,k<w.heap.size→k≠b→w'.heap[k]?=w.heap[k]?
 cell:∀ o,(o<off∨off+4≤o)→w'.cell? ⟨b,o,none⟩=w.cell? ⟨b,o,none⟩
theorem Four.refl (b off:Nat) (w:World):Four b off w w:=⟨rfl,rfl,rfl,Nat.le_refl _,fun _ _ _=>rfl,fun _ _=>rfl⟩
theorem Four.trans {b off:Nat}{x y z:World} (h:Four b off x y) (g:Four b off y z):Four b off x z:=
 ⟨g.os.trans h.os,g.tape.trans h.tape,g.output.trans h.output,Nat.le_trans h.size g.size,fun k hk hb=>(g.block k (Nat.lt_of_lt_of_le hk h.size) hb).trans (h.block k hk hb),fun o ho=>(g.cell o ho).trans (h.cell o ho)⟩
theorem Four.drew {b off:Nat}{x w:World} (h:Four b off x w):Four b off x w.drew:=⟨h.os,h.tape,h.output,h.size,h.block,h.cell⟩
theorem Four.setCell {b off:Nat}{x w:World} (h:Four b off x w) (o:Nat) (ho:off≤o∧o<off+4) (v:Value):Four b off x (w.setCell ⟨b,o,none⟩ v):=
 h.trans ⟨rfl,rfl,rfl,by simp[World.setCell],fun k _ hb=>Below.heap_setCell _ _ _ _ hb,fun o' ho'=>by
  have:o≠o':=by omega
  exact World.cell?_setCell_other _ _ _ _ (fun e=>this (by injection e))⟩
theorem Four.alloc {b off:Nat}{x w:World} (h:Four b off x w) (hb:b<w.heap.size) (o:Obj):Four b off x (w.alloc o):=
 h.trans ⟨rfl,rfl,rfl,by simp,fun k hk _=>Below.heap_alloc _ _ _ hk,fun o' _=>by simp[World.cell?,Below.heap_alloc _ _ _ hb]⟩
theorem wrap_small (p:Nat) (h:p<18446744073709551616):IntKind.u64.wrap (p:Int)=(p:Int):=by
 rw[IntKind.wrap_u64];omega
theorem or_u64 (x m:Nat) (hx:x<18446744073709551616) (hm:m<64):bits BinOp.or IntKind.u64 (x:Int) (IntKind.u64.wrap (2 ^ m))=((x ||| 2 ^ m:Nat):Int):=by
 have h2:2 ^ m<18446744073709551616:=Nat.pow_lt_pow_right (a:=2) (by omega) (show m<64 from hm)
 have e:((2:Int) ^ m)=((2 ^ m:Nat):Int):=(Int.natCast_pow 2 m).symm
 rw[e,wrap_small _ h2,bits_or_u64_nat x (2 ^ m) hx h2]
theorem or_lt (x m:Nat) (hx:x<18446744073709551616) (hm:m<64):x ||| 2 ^ m<18446744073709551616:=
 Nat.or_lt_two_pow (n:=64) hx (Nat.pow_lt_pow_right (by omega) hm)
theorem Wd.add0 {x0 x1 x2 x3:Nat}{S:Nat→Bool} (h:Wd x0 x1 x2 x3 S) (m:Nat) (hm:m<64):Wd (x0 ||| 2 ^ m) x1 x2 x3 (orS S (inSpan m m)):=by
 obtain⟨l0,l1,l2,l3,b0,b1,b2,b3⟩:=h
 refine⟨or_lt _ _ l0 hm,l1,l2,l3,fun n hn=>?_,fun n hn=>?_,fun n hn=>?_,fun n hn=>?_⟩
 ·rw[Nat.testBit_or,b0 n hn,Nat.testBit_two_pow]
  simp only[orS,inSpan]
  congr 1
  rw[Bool.eq_iff_iff];simp;omega
 all_goals
  first|rw[b1 n hn]|rw[b2 n hn]|rw[b3 n hn]
  simp only[orS,inSpan]
  rw[Bool.eq_iff_iff];simp;omega
theorem Wd.add1 {x0 x1 x2 x3:Nat}{S:Nat→Bool} (h:Wd x0 x1 x2 x3 S) (m:Nat) (hm:m<64):Wd x0 (x1 ||| 2 ^ m) x2 x3 (orS S (inSpan (64+m) (64+m))):=by
 obtain⟨l0,l1,l2,l3,b0,b1,b2,b3⟩:=h
 refine⟨l0,or_lt _ _ l1 hm,l2,l3,fun n hn=>?_,fun n hn=>?_,fun n hn=>?_,fun n hn=>?_⟩
 rotate_left
 ·rw[Nat.testBit_or,b1 n hn,Nat.testBit_two_pow]
  simp only[orS,inSpan]
  congr 1
  rw[Bool.eq_iff_iff];simp;omega
 all_goals
  first|rw[b0 n hn]|rw[b2 n hn]|rw[b3 n hn]
  simp only[orS,inSpan]
  rw[Bool.eq_iff_iff];simp;omega
theorem Wd.add2 {x0 x1 x2 x3:Nat}{S:Nat→Bool} (h:Wd x0 x1 x2 x3 S) (m:Nat) (hm:m<64):Wd x0 x1 (x2 ||| 2 ^ m) x3 (orS S (inSpan (128+m) (128+m))):=by
 obtain⟨l0,l1,l2,l3,b0,b1,b2,b3⟩:=h
 refine⟨l0,l1,or_lt _ _ l2 hm,l3,fun n hn=>?_,fun n hn=>?_,fun n hn=>?_,fun n hn=>?_⟩
 rotate_left 2
 ·rw[Nat.testBit_or,b2 n hn,Nat.testBit_two_pow]
  simp only[orS,inSpan]
  congr 1
  rw[Bool.eq_iff_iff];simp;omega
 all_goals
  first|rw[b0 n hn]|rw[b1 n hn]|rw[b3 n hn]
  simp only[orS,inSpan]
  rw[Bool.eq_iff_iff];simp;omega
theorem Wd.add3 {x0 x1 x2 x3:Nat}{S:Nat→Bool} (h:Wd x0 x1 x2 x3 S) (m:Nat) (hm:m<64):Wd x0 x1 x2 (x3 ||| 2 ^ m) (orS S (inSpan (192+m) (192+m))):=by
 obtain⟨l0,l1,l2,l3,b0,b1,b2,b3⟩:=h
 refine⟨l0,l1,l2,or_lt _ _ l3 hm,fun n hn=>?_,fun n hn=>?_,fun n hn=>?_,fun n hn=>?_⟩
 rotate_left 3
 ·rw[Nat.testBit_or,b3 n hn,Nat.testBit_two_pow]
  simp only[orS,inSpan]
  congr 1
  rw[Bool.eq_iff_iff];simp;omega
 all_goals
  first|rw[b0 n hn]|rw[b1 n hn]|rw[b2 n hn]
  simp only[orS,inSpan]
  rw[Bool.eq_iff_iff];simp;omega
theorem SetAt.put0 {w:World}{b off:Nat}{S S':Nat→Bool}{x0 x1 x2 x3 y:Nat} (h:SetAt w b off S x0 x1 x2 x3) (hw:Wd y x1 x2 x3 S'):SetAt (w.setCell ⟨b,off,none⟩ (.int .u64 y)).drew b off S' y x1 x2 x3:=by
 obtain⟨wd,c0,c1,c2,c3,fz⟩:=h
 refine⟨hw,?_,?_,?_,?_,fun o=>?_⟩<;>simp[c0,c1,c2,c3,fz,go_sem]
theorem SetAt.put1 {w:World}{b off:Nat}{S S':Nat→Bool}{x0 x1 x2 x3 y:Nat} (h:SetAt w b off S x0 x1 x2 x3) (hw:Wd x0 y x2 x3 S'):SetAt (w.setCell ⟨b,off+1,none⟩ (.int .u64 y)).drew b off S' x0 y x2 x3:=by
 obtain⟨wd,c0,c1,c2,c3,fz⟩:=h
 refine⟨hw,?_,?_,?_,?_,fun o=>?_⟩<;>simp[c0,c1,c2,c3,fz,go_sem]
theorem SetAt.put2 {w:World}{b off:Nat}{S S':Nat→Bool}{x0 x1 x2 x3 y:Nat} (h:SetAt w b off S x0 x1 x2 x3) (hw:Wd x0 x1 y x3 S'):SetAt (w.setCell ⟨b,off+2,none⟩ (.int .u64 y)).drew b off S' x0 x1 y x3:=by
 obtain⟨wd,c0,c1,c2,c3,fz⟩:=h
 refine⟨hw,?_,?_,?_,?_,fun o=>?_⟩<;>simp[c0,c1,c2,c3,fz,go_sem]
theorem SetAt.put3 {w:World}{b off:Nat}{S S':Nat→Bool}{x0 x1 x2 x3 y:Nat} (h:SetAt w b off S x0 x1 x2 x3) (hw:Wd x0 x1 x2 y S'):SetAt (w.setCell ⟨b,off+3,none⟩ (.int .u64 y)).drew b off S' x0 x1 x2 y:=by
 obtain⟨wd,c0,c1,c2,c3,fz⟩:=h
 refine⟨hw,?_,?_,?_,?_,fun o=>?_⟩<;>simp[c0,c1,c2,c3,fz,go_sem]
theorem add_any (w:World) (b off n:Nat) (S:Nat→Bool) (x0 x1 x2 x3:Nat) (hn:n<256) (h:SetAt w b off S x0 x1 x2 x3) :
  Calls Tryz.prog 78 #[.pointer (some ⟨b,off,none⟩),.int .u8 n] w fun e w'=>e=.returned (.tuple #[])∧(∃ y0 y1 y2 y3,SetAt w' b off (orS S (inSpan n n)) y0 y1 y2 y3)∧Four b off w w':=by
 have h':=h
 obtain⟨wd,c0,c1,c2,c3,fz⟩:=h
 have hq:n<64∨(64≤n∧n<128)∨(128≤n∧n<192)∨192≤n:=by omega
 rcases hq with hq|hq|hq|hq
 ·obtain⟨m,hm0⟩:∃ m,n=m:=⟨n-0,by omega⟩
  have hd:(n:Int) / 64=0:=by omega
  have hm:(n:Int)%64=(m:Int):=by omega
  have hlt:m<64:=by omega
  have HW:Hid (bits BinOp.or IntKind.u64 (x0:Int) (IntKind.u64.wrap (2 ^ m))=((x0 ||| 2 ^ m:Nat):Int)):=or_u64 x0 m wd.l0 hlt
  have f0:=fz (off)
  have HM:Hid (n=m):=hm0
  clear hm0
  go_enter Tryz.func78,Tryz.ntmps78
  go_region
  go_end0
  rw[HW.out]
  have e2:orS S (inSpan n n)=orS S (inSpan (m) (m)):=by rw[HM.out]
  rw[e2]
  exact⟨rfl,⟨_,_,_,_,h'.put0 (wd.add0 m hlt)⟩,((Four.refl _ _ _).setCell _ (by omega) _).drew⟩
 ·obtain⟨m,hm0⟩:∃ m,n=64+m:=⟨n-64,by omega⟩
  have hd:(n:Int) / 64=1:=by omega
  have hm:(n:Int)%64=(m:Int):=by omega
  have hlt:m<64:=by omega
  have HW:Hid (bits BinOp.or IntKind.u64 (x1:Int) (IntKind.u64.wrap (2 ^ m))=((x1 ||| 2 ^ m:Nat):Int)):=or_u64 x1 m wd.l1 hlt
  have f0:=fz (off+1)
  have HM:Hid (n=64+m):=hm0
  clear hm0
  go_enter Tryz.func78,Tryz.ntmps78
  go_region
  go_end0
  rw[HW.out]
  have e2:orS S (inSpan n n)=orS S (inSpan (64+m) (64+m)):=by rw[HM.out]
  rw[e2]
  exact⟨rfl,⟨_,_,_,_,h'.put1 (wd.add1 m hlt)⟩,((Four.refl _ _ _).setCell _ (by omega) _).drew⟩
 ·obtain⟨m,hm0⟩:∃ m,n=128+m:=⟨n-128,by omega⟩
  have hd:(n:Int) / 64=2:=by omega
  have hm:(n:Int)%64=(m:Int):=by omega
  have hlt:m<64:=by omega
  have HW:Hid (bits BinOp.or IntKind.u64 (x2:Int) (IntKind.u64.wrap (2 ^ m))=((x2 ||| 2 ^ m:Nat):Int)):=or_u64 x2 m wd.l2 hlt
  have f0:=fz (off+2)
  have HM:Hid (n=128+m):=hm0
  clear hm0
  go_enter Tryz.func78,Tryz.ntmps78
  go_region
  go_end0
  rw[HW.out]
  have e2:orS S (inSpan n n)=orS S (inSpan (128+m) (128+m)):=by rw[HM.out]
  rw[e2]
  exact⟨rfl,⟨_,_,_,_,h'.put2 (wd.add2 m hlt)⟩,((Four.refl _ _ _).setCell _ (by omega) _).drew⟩
 ·obtain⟨m,hm0⟩:∃ m,n=192+m:=⟨n-192,by omega⟩
  have hd:(n:Int) / 64=3:=by omega
  have hm:(n:Int)%64=(m:Int):=by omega
  have hlt:m<64:=by omega
  have HW:Hid (bits BinOp.or IntKind.u64 (x3:Int) (IntKind.u64.wrap (2 ^ m))=((x3 ||| 2 ^ m:Nat):Int)):=or_u64 x3 m wd.l3 hlt
  have f0:=fz (off+3)
  have HM:Hid (n=192+m):=hm0
  clear hm0
  go_enter Tryz.func78,Tryz.ntmps78
  go_region
  go_end0
  rw[HW.out]
  have e2:orS S (inSpan n n)=orS S (inSpan (192+m) (192+m)):=by rw[HM.out]
  rw[e2]
  exact⟨rfl,⟨_,_,_,_,h'.put3 (wd.add3 m hlt)⟩,((Four.refl _ _ _).setCell _ (by omega) _).drew⟩
theorem and_u64 (x m:Nat) (hx:x<18446744073709551616):(bits BinOp.and IntKind.u64 ((x:Int) / 2 ^ m) 1==1)=x.testBit m:=by
 have e:((x:Int) / 2 ^ m)=((x / 2 ^ m:Nat):Int):=by rw[Int.natCast_ediv,Int.natCast_pow];rfl
 have e1:(1:Int)=((1:Nat):Int):=rfl
 have hd:x / 2 ^ m<18446744073709551616:=Nat.lt_of_le_of_lt (Nat.div_le_self _ _) hx
 rw[e,e1,bits_and_u64_nat _ 1 hd (by omega),Nat.testBit_eq_decide_div_mod_eq,Nat.and_one_is_mod]
 rw[Bool.eq_iff_iff];simp
 omega
theorem has_any (w:World) (x0 x1 x2 x3 n:Nat) (S:Nat→Bool) (hn:n<256) (h:Wd x0 x1 x2 x3 S) :
  Calls Tryz.prog 95 #[.agg #[.int .u64 x0,.int .u64 x1,.int .u64 x2,.int .u64 x3],.int .u8 n] w fun e w'=>e=.returned (.bool (S n))∧Below w.heap.size w w':=by
 have hq:n<64∨(64≤n∧n<128)∨(128≤n∧n<192)∨192≤n:=by omega
 rcases hq with hq|hq|hq|hq
 ·obtain⟨m,hm0⟩:∃ m,n=m:=⟨n-0,by omega⟩
  have hd:(n:Int) / 64=0:=by omega
  have hm:(n:Int)%64=(m:Int):=by omega
  have hlt:m<64:=by omega
  have HS:Hid ((bits BinOp.and IntKind.u64 ((x0:Int) / 2 ^ m) 1==1)=S n):=by
   show _=_
   rw[and_u64 x0 m h.l0,h.b0 m hlt,hm0]
  clear hm0 h
  go_enter Tryz.func95,Tryz.ntmps95
  go_wp2
  go_ret
  exact⟨ret_bool HS.out,(Below.refl _ _).alloc (Nat.le_refl _) _⟩
 ·obtain⟨m,hm0⟩:∃ m,n=64+m:=⟨n-64,by omega⟩
  have hd:(n:Int) / 64=1:=by omega
  have hm:(n:Int)%64=(m:Int):=by omega
  have hlt:m<64:=by omega
  have HS:Hid ((bits BinOp.and IntKind.u64 ((x1:Int) / 2 ^ m) 1==1)=S n):=by
   show _=_
   rw[and_u64 x1 m h.l1,h.b1 m hlt,hm0]
  clear hm0 h
  go_enter Tryz.func95,Tryz.ntmps95
  go_wp2
  go_ret
  exact⟨ret_bool HS.out,(Below.refl _ _).alloc (Nat.le_refl _) _⟩
 ·obtain⟨m,hm0⟩:∃ m,n=128+m:=⟨n-128,by omega⟩
  have hd:(n:Int) / 64=2:=by omega
  have hm:(n:Int)%64=(m:Int):=by omega
  have hlt:m<64:=by omega
  have HS:Hid ((bits BinOp.and IntKind.u64 ((x2:Int) / 2 ^ m) 1==1)=S n):=by
   show _=_
   rw[and_u64 x2 m h.l2,h.b2 m hlt,hm0]
  clear hm0 h
  go_enter Tryz.func95,Tryz.ntmps95
  go_wp2
  go_ret
  exact⟨ret_bool HS.out,(Below.refl _ _).alloc (Nat.le_refl _) _⟩
 ·obtain⟨m,hm0⟩:∃ m,n=192+m:=⟨n-192,by omega⟩
  have hd:(n:Int) / 64=3:=by omega
  have hm:(n:Int)%64=(m:Int):=by omega
  have hlt:m<64:=by omega
  have HS:Hid ((bits BinOp.and IntKind.u64 ((x3:Int) / 2 ^ m) 1==1)=S n):=by
   show _=_
   rw[and_u64 x3 m h.l3,h.b3 m hlt,hm0]
  clear hm0 h
  go_enter Tryz.func95,Tryz.ntmps95
  go_wp2
  go_ret
  exact⟨ret_bool HS.out,(Below.refl _ _).alloc (Nat.le_refl _) _⟩
def RowE {α:Type} (enc:α→Value) (w:World) (v:Value) (l:List α):Prop:=
 (l=[]∧∃ a c,v=.slice a 0 c)∨∃ b o c,v=.slice (some ⟨b,o,none⟩) l.length c∧∀ j (hj:j<l.length),w.cell? ⟨b,o+j,none⟩=some (enc l[j])
theorem RowE.form {α:Type}{enc:α→Value}{w:World}{v:Value}{l:List α} (h:RowE enc w v l):∃ a c,v=.slice a l.length c:=by
 rcases h with⟨rfl,a,c,rfl⟩|⟨b,o,c,rfl,_⟩
 ·exact⟨a,c,rfl⟩
 ·exact⟨_,c,rfl⟩
theorem RowE.nonnil {α:Type}{enc:α→Value}{w:World}{v:Value}{l:List α} (h:RowE enc w v l) (hl:0<l.length):∃ b o c,v=.slice (some ⟨b,o,none⟩) l.length c∧∀ j (hj:j<l.length),w.cell? ⟨b,o+j,none⟩=some (enc l[j]):=by
 rcases h with⟨rfl,_⟩|h
 ·simp at hl
 ·exact h
theorem cell_lt {w:World}{b o:Nat}{v:Value} (h:w.cell? ⟨b,o,none⟩=some v):b<w.heap.size:=by
 rcases Nat.lt_or_ge b w.heap.size with q|q
 ·exact q
 ·simp[World.cell?,Array.getElem?_eq_none q] at h
theorem cell_below {w w':World}{b o:Nat}{v:Value} (hb:Below w.heap.size w w') (h:w.cell? ⟨b,o,none⟩=some v):w'.cell? ⟨b,o,none⟩=some v:=by
 have e:=hb.block b (cell_lt h)
 simp only[World.cell?] at h ⊢
 rw[e];exact h
theorem RowE.below {α:Type}{enc:α→Value}{w w':World}{v:Value}{l:List α} (h:RowE enc w v l) (hb:Below w.heap.size w w'):RowE enc w' v l:=by
 rcases h with h|⟨b,o,c,rfl,hc⟩
 ·exact .inl h
 ·exact .inr ⟨b,o,c,rfl,fun j hj=>cell_below hb (hc j hj)⟩
def RowsE {α:Type} (enc:α→Value) (w:World) (v:Value) (ls:List (List α)):Prop:=
 ∃ us:List Value,us.length=ls.length∧RowE id w v us∧∀ j (h1:j<us.length) (h2:j<ls.length),RowE enc w us[j] ls[j]
theorem RowsE.below {α:Type}{enc:α→Value}{w w':World}{v:Value}{ls:List (List α)} (h:RowsE enc w v ls) (hb:Below w.heap.size w w'):RowsE enc w' v ls:=by
 obtain⟨us,h1,h2,h3⟩:=h
 exact⟨us,h1,h2.below hb,fun j a b=>(h3 j a b).below hb⟩
abbrev eI (z:Int):Value:=.int .i64 z
abbrev eB (b:Bool):Value:=.bool b
abbrev e8 (z:Int):Value:=.int .u8 z
abbrev ba (l:List UInt8):ByteArray:=⟨l.toArray⟩
theorem ba_size (l:List UInt8):(ba l).size=l.length:=by simp[ByteArray.size]
abbrev tv (t:Tb) (va vn:Value):Value:=.agg #[.bool t.front,.bool t.back,.int .i64 t.start,.string (ba t.cls),va,vn]
structure TabIn (w:World) (t:Tb) (va vn:Value):Prop where
 acc:RowE eB w va t.acc
 next:RowsE eI w vn t.next
theorem TabIn.below {w w':World}{t:Tb}{va vn:Value} (h:TabIn w t va vn) (hb:Below w.heap.size w w'):TabIn w' t va vn:=⟨h.acc.below hb,h.next.below hb⟩
structure Small (t:Tb):Prop where
 a:t.acc.length≤maxLen
 n:t.next.length≤maxLen
 r:∀ r∈t.next,r.length≤maxLen
 c:t.cls.length≤maxLen
def rowOk (c:Nat) (n:Nat) (r:List Int):Bool:=r.length==c&&r.all fun z=>isSt z n
def isTb (t:Tb):Bool:=
 decide (1≤t.acc.length)&&(decide (t.acc.length≤200)&&(decide (t.next.length=t.acc.length)&&(isSt t.start t.acc.length&&match cntR (ba t.cls) with
  |none=>false
  |some c=>t.next.all (rowOk c t.acc.length))))
theorem isTable_any (w:World) (t:Tb) (va vn:Value) (h:TabIn w t va vn) (hs:Small t) :
  Calls Tryz.prog 76 #[tv t va vn] w fun e w'=>e=.returned (.bool (isTb t))∧Below w.heap.size w w':=by
 obtain⟨ha,hn⟩:=h
 obtain⟨s1,s2,s3,s4⟩:=hs
 obtain⟨a,ca,rfl⟩:=ha.form
 obtain⟨us,hul,hu,hr⟩:=hn
 obtain⟨f,b,st,cls,acc,next⟩:=t
 simp only at *
 obtain⟨an,cn,rfl⟩:=hu.form
 obtain⟨na,hna⟩:∃ na,na=acc.length:=⟨_,rfl⟩
 obtain⟨nn,hnn⟩:∃ nn,nn=us.length:=⟨_,rfl⟩
 have HT:Hid (isTb ⟨f,b,st,cls,acc,next⟩=(decide (1≤na)&&(decide (na≤200)&&(decide (nn=na)&&(isSt st na&&match cntR (ba cls) with|none=>false|some c=>next.all (rowOk c na)))))):=by
  show _=_
  rw[hna,hnn,hul];rfl
 rw[←hna] at s1 ⊢
 rw[←hnn] at hul hu ⊢
 have HB:Hid (Below w.heap.size w (w.alloc (.cells #[.bool f,.bool b,.int .i64 st,.string (ba cls),.slice a na ca,.slice an nn cn] 33))):=(Below.refl _ _).alloc (Nat.le_refl _) _
 have hU:Hid (RowE id (w.alloc (.cells #[.bool f,.bool b,.int .i64 st,.string (ba cls),.slice a na ca,.slice an nn cn] 33)) (.slice an nn cn) us):=hu.below HB.out
 have hRw:Hid (∀ j (h1:j<us.length) (h2:j<next.length),RowE eI (w.alloc (.cells #[.bool f,.bool b,.int .i64 st,.string (ba cls),.slice a na ca,.slice an nn cn] 33)) us[j] next[j]):=fun j h1 h2=>(hr j h1 h2).below HB.out
 unfold maxLen at s1 s2 s3 s4
 have HUL:Hid (nn=next.length):=hul
 have HNN:Hid (nn=us.length):=hnn
 rw[←hul] at s2
 clear hna ha hu hr hul hnn
 by_cases h1:(na:Int)<1
 ·have HF:Hid (isTb ⟨f,b,st,cls,acc,next⟩=false):=by
   show _=_
   rw[HT.out,decide_eq_false (by omega)];rfl
  clear HT
  go_enter Tryz.func76,Tryz.ntmps76
  go_wp2
  go_ret
  exact⟨ret_bool HF.out.symm,HB.out⟩
 by_cases h2:200<(na:Int)
 ·have HF:Hid (isTb ⟨f,b,st,cls,acc,next⟩=false):=by
   show _=_
   rw[HT.out,decide_eq_false (p:=na≤200) (by omega)];simp
  clear HT
  go_enter Tryz.func76,Tryz.ntmps76
  go_wp2
  go_ret
  exact⟨ret_bool HF.out.symm,HB.out⟩
 by_cases h3:(nn:Int)=na
 rotate_left
 ·have HF:Hid (isTb ⟨f,b,st,cls,acc,next⟩=false):=by
   show _=_
   rw[HT.out,decide_eq_false (p:=nn=na) (by omega)];simp
  have h3':((nn:Int) != na)=true:=by simpa using h3
  clear HT
  go_enter Tryz.func76,Tryz.ntmps76
  go_wp2
  go_ret
  exact⟨ret_bool HF.out.symm,HB.out⟩
 have h3':((nn:Int) != na)=false:=by simpa using h3
 cases h4:isSt st na with
 |false=>
  have HF:Hid (isTb ⟨f,b,st,cls,acc,next⟩=false):=by
   show _=_
   rw[HT.out,h4];simp
  clear HT
  have hst:=isState_any st na
  rw[h4] at hst
  go_enter Tryz.func76,Tryz.ntmps76
  go_wp2_with (go_at_call 134;refine(hst _).mono ?_;rintro e w1 ⟨rfl,hw⟩;obtain rfl:=hw.symm)
  go_ret
  exact⟨ret_bool HF.out.symm,HB.out⟩
 |true=>
 have hst:=isState_any st na
 rw[h4] at hst
 have hcc:=countClasses_any (ba cls) (by rw[ba_size];unfold maxLen;exact s4)
 cases h5:cntR (ba cls) with
 |none=>
  have HF:Hid (isTb ⟨f,b,st,cls,acc,next⟩=false):=by
   show _=_
   rw[HT.out,h5];simp
  rw[h5] at hcc
  clear HT
  go_enter Tryz.func76,Tryz.ntmps76
  go_wp2_with (first|(go_at_call 135;refine(hcc _).mono ?_;rintro e w2 ⟨rfl,hw2⟩;obtain rfl:=hw2.symm)|(go_at_call 134;refine(hst _).mono ?_;rintro e w1 ⟨rfl,hw⟩;obtain rfl:=hw.symm))
  go_ret
  exact⟨ret_bool HF.out.symm,HB.out⟩
 |some c=>
 rw[h5] at hcc
 have HF:Hid (isTb ⟨f,b,st,cls,acc,next⟩=next.all (rowOk c na)):=by
  show _=_
  rw[HT.out,h5,h4,decide_eq_true (p:=1≤na) (by omega),decide_eq_true (p:=na≤200) (by omega),decide_eq_true (p:=nn=na) (by omega)];simp
 have hc256:c≤256:=by
  unfold cntR at h5
  split at h5
  ·have:=cntC_le _ _ _ h5;omega
  ·simp at h5
 clear HT h5
 simp only[Option.getD_some,Option.isSome_some] at hcc
 obtain⟨wx,hwx⟩:∃ wx,wx=w.alloc (.cells #[.bool f,.bool b,.int .i64 st,.string (ba cls),.slice a na ca,.slice an nn cn] 33):=⟨_,rfl⟩
 rw[←hwx] at HB hU hRw
 have HW:Hid (wx=w.alloc (.cells #[.bool f,.bool b,.int .i64 st,.string (ba cls),.slice a na ca,.slice an nn cn] 33)):=hwx
 obtain⟨bn,on,cn',hvn,hcell⟩:=hU.out.nonnil (by have:=HNN.out;omega)
 injection hvn with e1 e2 e3
 subst e1
 have HC:Hid (∀ j (hj:j<us.length),wx.cell? ⟨bn,on+j,none⟩=some us[j]):=hcell
 clear hcell e2 e3 hU hwx
 go_enter Tryz.func76,Tryz.ntmps76
 go_wp2_with (first|(go_at_call 135;refine(hcc _).mono ?_;rintro e w2 ⟨rfl,hw2⟩;obtain rfl:=hw2.symm)|(go_at_call 134;refine(hst _).mono ?_;rintro e w1 ⟨rfl,hw⟩;obtain rfl:=hw.symm))
 rw[←HW.out]
 go_loop [42] (fun i=>∃ k:Nat,i=.int .i64 k∧k≤nn∧next.all (rowOk c na)=(next.drop k).all (rowOk c na)) (fun i=>nn-(intOf i).toNat)
 case atStart=>exact⟨0,rfl,Nat.zero_le _,rfl⟩
 case round=>
  obtain⟨k,rfl,hk,heq⟩:=hrel
  have HE:Hid (next.all (rowOk c na)=(next.drop k).all (rowOk c na)):=heq
  clear heq
  by_cases hlt:k<nn
  ·have hlt1:k<us.length:=by have:=HNN.out;omega
   have hlt2:k<next.length:=by have:=HUL.out;omega
   have hltI:(k:Int)<nn:=by omega
   have hck:=HC.out k hlt1
   have hrk:=hRw.out k hlt1 hlt2
   have hlen:next[k].length≤9223372036854775807:=s3 _ (List.getElem_mem hlt2)
   obtain⟨u,hu⟩:∃ u,u=us[k]:=⟨_,rfl⟩
   obtain⟨r,hre⟩:∃ r,r=next[k]:=⟨_,rfl⟩
   rw[←hu] at hck hrk
   rw[←hre] at hrk hlen
   have HD:Hid (next.all (rowOk c na)=(rowOk c na r&&(next.drop (k+1)).all (rowOk c na))):=by
    show _=_
    have:=HE.out;rw[List.drop_eq_getElem_cons hlt2,←hre] at this;simpa only [List.all_cons] using this
   have has:=areStates_any u r na wx hrk (by unfold maxLen;exact hlen)
   obtain⟨au,cu,hform⟩:=hrk.form
   subst hform
   clear hu hre hrk
   by_cases hc:(r.length:Int)=c
   ·have hcb:((r.length:Int) != c)=false:=by simpa using hc
    cases hal:r.all fun z=>isSt z na with
    |true=>
     rw[hal] at has
     have HQ:Hid (next.all (rowOk c na)=(next.drop (k+1)).all (rowOk c na)):=by
      show _=_
      rw[HD.out];simp only[rowOk];rw[hal];simp;omega
     clear hal
     go_wp2_with (go_at_call 136;refine has.mono ?_;rintro e w3 ⟨rfl,hw3⟩;obtain rfl:=hw3.symm)
     go_round
     case rel=>exact⟨k+1,by go_num,by omega,HQ.out⟩
     case measure=>simp[intOf]<;>omega
    |false=>
     rw[hal] at has
     have HQ:Hid (next.all (rowOk c na)=false):=by
      show _=_
      rw[HD.out];simp only[rowOk];rw[hal];simp
     clear hal
     go_wp2_with (go_at_call 136;refine has.mono ?_;rintro e w3 ⟨rfl,hw3⟩;obtain rfl:=hw3.symm)
     go_ret
     exact⟨ret_bool (by rw[HF.out,HQ.out]),HB.out⟩
   ·have hcb:((r.length:Int) != c)=true:=by simpa using hc
    have HQ:Hid (next.all (rowOk c na)=false):=by
     show _=_
     rw[HD.out];simp only[rowOk];rw[show(r.length==c)=false by simp;omega];simp
    clear has
    go_wp2
    go_ret
    exact⟨ret_bool (by rw[HF.out,HQ.out]),HB.out⟩
  ·have hkI:¬(k:Int)<nn:=by omega
   have HQ:Hid (next.all (rowOk c na)=true):=by
    show _=_
    rw[HE.out,List.drop_of_length_le (by have:=HUL.out;omega)];rfl
   go_wp2
   go_ret
   exact⟨ret_bool (by rw[HF.out,HQ.out]),HB.out⟩
open Go.Maps (Keyed)
open Go.ChangeMaps (setBlock)
def numEs (vs:List Value):Array MapEntry:=(vs.zipIdx.map fun p=>(⟨p.1,.int .i64 (p.2:Int),p.2⟩:MapEntry)).toArray
theorem numEs_get (vs:List Value) (j:Nat):(numEs vs).toList[j]?=vs[j]?.map fun v=>(⟨v,.int .i64 (j:Int),j⟩:MapEntry):=by
 simp[numEs,List.getElem?_map,List.getElem?_zipIdx]
 cases vs[j]?<;>simp
theorem numEs_push (vs:List Value) (x:Value):(numEs vs).push ⟨x,.int .i64 (vs.length:Int),vs.length⟩=numEs (vs++[x]):=by
 apply Array.ext'
 simp[numEs,List.zipIdx_append]
theorem numEs_size (vs:List Value):(numEs vs).size=vs.length:=by simp[numEs]
theorem numEs_keys {vs:List Value}{e:MapEntry} (h:e∈(numEs vs).toList):e.key∈vs:=by
 obtain⟨j,hj⟩:=List.mem_iff_getElem?.1 h
 rw[numEs_get] at hj
 obtain⟨v,hv,rfl⟩:=Option.map_eq_some_iff.1 hj
 exact List.mem_of_getElem? hv
section
variable {P:Program}{k e t:TypeId}{w:World}{b:Nat}{vs:List Value}{x:Value}
theorem num_look (K:Keyed P k) (ht:P.underlying t=some (.map k e)) (hz:(zeroValue e).run P w=.ok (.int .i64 0) w) (hb:w.heap[b]?=some (.map (numEs vs) vs.length))
  (hk:∀ v∈vs,∃ l,keyOf P k v=some l) (hx:∃ l,keyOf P k x=some l) :
  (x ∉ vs∧(Instr.lookup t (.map (some b)) x true).run P w=.ok (.tuple #[.int .i64 0,.bool false]) w) ∨
   ∃ j:Nat,vs[j]?=some x∧(Instr.lookup t (.map (some b)) x true).run P w=.ok (.tuple #[.int .i64 (j:Int),.bool true]) w:=by
 obtain⟨l,hl⟩:=hx
 rcases K.find w hl (numEs vs).toList (fun e he=>hk _ (numEs_keys he)) with⟨h1,h2⟩|⟨j,e0,h1,h2,h3⟩
 ·refine .inl ⟨fun hm=>?_,by simp[Instr.lookup,run_underlying ht,MapKept.run_getObj_map hb,K.check w _ hl,h1,hz,Result.andThen]⟩
  obtain⟨j,hj⟩:=List.mem_iff_getElem?.1 hm
  have:=numEs_get vs j
  rw[hj] at this
  exact h2 _ (List.mem_of_getElem? this) rfl
 ·rw[numEs_get] at h2
  obtain⟨v,hv,rfl⟩:=Option.map_eq_some_iff.1 h2
  refine .inr ⟨j,by rw[hv];exact congrArg some h3,by simp[Instr.lookup,run_underlying ht,MapKept.run_getObj_map hb,K.check w _ hl,h1,Result.andThen]⟩
theorem num_put (K:Keyed P k) (ht:P.underlying t=some (.map k e)) (hb:w.heap[b]?=some (.map (numEs vs) vs.length))
  (hk:∀ v∈vs,∃ l,keyOf P k v=some l) (hx:∃ l,keyOf P k x=some l) (hn:x ∉ vs) :
  (Instr.mapUpdate t (.map (some b)) x (.int .i64 (vs.length:Int))).run P w=.ok () (setBlock w b (.map (numEs (vs++[x])) (vs++[x]).length)):=by
 obtain⟨l,hl⟩:=hx
 rcases K.find w hl (numEs vs).toList (fun e he=>hk _ (numEs_keys he)) with⟨h1,h2⟩|⟨j,e0,h1,h2,h3⟩
 ·simp[Instr.mapUpdate,run_underlying ht,MapKept.run_getObj_map hb,K.check w _ hl,h1,Result.andThen,numEs_push,setBlock,MapKept.run_setObj_map _ hb]
 ·rw[numEs_get] at h2
  obtain⟨v,hv,rfl⟩:=Option.map_eq_some_iff.1 h2
  exact absurd (h3▸List.mem_of_getElem? hv) hn
theorem num_len (ty:TypeId) (ht:P.underlying t=some (.map k e)) (hb:w.heap[b]?=some (.map (numEs vs) vs.length)):(Builtin.len_ #[t] ty #[.map (some b)]).run P w=.ok (.int .i64 (vs.length:Int)) w:=by
 simp[Builtin.len_,run_underlying ht,MapKept.run_getObj_map hb,Result.andThen,numEs_size,goInt]
end
open Go.RowKit
theorem own_lt {w:World}{base:Nat}{e:TypeId}{size:Nat}{v:Value}{n q:Nat}{xs:List Value} (h:w.ownsRow base e size v n xs) (hq:v.ownBlock=some q):q<w.heap.size:=by
 rcases h.2 with⟨rfl,_⟩|⟨g,cap,cur,rfl,h1,h2,r⟩
 ·simp[Value.ownBlock] at hq
 ·simp[Value.ownBlock] at hq
  subst hq
  exact(Array.getElem?_eq_some_iff.1 h2).1
structure Ap (p off:Nat) (r:Option Nat) (w w':World):Prop where
 os:w'.os=w.os
 tape:w'.tape=w.tape
 output:w'.output=w.output
 size:w.heap.size≤w'.heap.size
 block:∀ b,b<w.heap.size→b≠p→some b≠r→w'.heap[b]?=w.heap[b]?
 cell:∀ o,o≠off→w'.cell? ⟨p,o,none⟩=w.cell? ⟨p,o,none⟩
 fz:∀ o,w'.frozen? ⟨p,o,none⟩=w.frozen? ⟨p,o,none⟩
theorem own_blk {w w':World}{base:Nat}{e:TypeId}{size:Nat}{v:Value}{n:Nat}{xs:List Value} (h:w.ownsRow base e size v n xs) (hb:∀ b,v.ownBlock=some b→w'.heap[b]?=w.heap[b]?):w'.ownsRow base e size v n xs:=by
 refine⟨h.1,?_⟩
 rcases h.2 with q|⟨g,cap,cur,rfl,h1,h2,r⟩
 ·exact .inl q
 ·exact .inr ⟨g,cap,cur,rfl,h1,(hb g rfl).trans h2,r⟩
theorem set_blk (w:World) (b o:Nat) (v:Value) {k:Nat} (h:k≠b):(w.setCell ⟨b,o,none⟩ v).heap[k]?=w.heap[k]?:=by
 simp[World.setCell,Array.getElem?_setIfInBounds,Array.getElem?_modify,Ne.symm h,h]
theorem ap_of {w wa w4:World}{v x:Value}{p off g:Nat} (hb:Below w.heap.size w wa) (hp:p<w.heap.size) (hne:v.ownBlock≠some p) (hl:∀ q,v.ownBlock=some q→q<w.heap.size)
  (hg:(v.ownBlock=some g∧wa.grownBy w4 (some g))∨(g=wa.heap.size∧wa.grownBy w4 none)) (hf:w.frozen? ⟨p,off,none⟩=false) :
  Ap p off v.ownBlock w (w4.setCell ⟨p,off,none⟩ x)∧g≠p∧(v.ownBlock=some g∨w.heap.size≤g)∧w4.frozen? ⟨p,off,none⟩=false:=by
 have hbs:=hb.size
 have hgp:g≠p:=by
  rcases hg with⟨h1,_⟩|⟨h1,_⟩
  ·rintro rfl;exact hne h1
  ·omega
 have hblk:∀ b,b<w.heap.size→some b≠v.ownBlock→w4.heap[b]?=w.heap[b]?:=by
  intro b hb1 hb2
  rcases hg with⟨h1,h2⟩|⟨h1,h2⟩
  ·exact(h2.block b (by omega) (by rw[←h1];exact hb2)).trans (hb.block b hb1)
  ·exact(h2.block b (by omega) (by simp)).trans (hb.block b hb1)
 have hpp:=hblk p hp (fun e=>hne e.symm)
 have hsz:w.heap.size≤w4.heap.size∧w4.os=w.os∧w4.tape=w.tape∧w4.output=w.output:=by
  rcases hg with⟨h1,h2⟩|⟨h1,h2⟩
  ·exact⟨Nat.le_trans hbs h2.size,h2.os.trans hb.os,h2.tape.trans hb.tape,h2.output.trans hb.output⟩
  ·exact⟨Nat.le_trans hbs h2.size,h2.os.trans hb.os,h2.tape.trans hb.tape,h2.output.trans hb.output⟩
 refine⟨⟨hsz.2.1,hsz.2.2.1,hsz.2.2.2,by simp[World.setCell];exact hsz.1,fun b h1 h2 h3=>?_,fun o ho=>?_,fun o=>?_⟩,hgp,?_,?_⟩
 ·rw[set_blk _ _ _ _ h2];exact hblk b h1 h3
 ·have:(w4.setCell ⟨p,off,none⟩ x).cell? ⟨p,o,none⟩=w4.cell? ⟨p,o,none⟩:=by simp[go_sem,Ne.symm ho,ho]
  rw[this];simp[World.cell?,hpp]
 ·have:(w4.setCell ⟨p,off,none⟩ x).frozen? ⟨p,o,none⟩=w4.frozen? ⟨p,o,none⟩:=by simp[go_sem]
  rw[this];simp[World.frozen?,hpp]
 ·rcases hg with⟨h1,_⟩|⟨h1,_⟩
  ·exact .inl h1
  ·exact .inr (by omega)
 ·rw[←hf];simp[World.frozen?,hpp]
theorem step_mapUpdate {P:Program} (w:World) {ops:Array Oper}{o:Oper}{a:Act}{K:Act→World→Prop}{Q:Exit→Act→World→Prop}{E:Prop} (hgd:o.guard=none) (m x v:Operand) (t:TypeId)
  (ho:o.op=.mapUpdate t m x v) (mv xv vv:Value) (hm:a.eval m=mv) (hx:a.eval x=xv) (hv:a.eval v=vv) (w':World) (hr:(Instr.mapUpdate t mv xv vv).run P w=.ok () w') (h:K (a.put o.dst undef) w') :
  if Region.wanted o (yielded ops a.tmps)=true then Oper.wp P o a w K Q else E:=by
 have hw:Region.wanted o (yielded ops a.tmps)=true:=by simp[Region.wanted,hgd]
 rw[if_pos hw]
 unfold Oper.wp
 simp[execOp,ho,hm,hx,hv,hr,Result.andThen]
 exact h
structure Exc (S:Nat→Prop) (w w':World):Prop where
 os:w'.os=w.os
 tape:w'.tape=w.tape
 output:w'.output=w.output
 size:w.heap.size≤w'.heap.size
 block:∀ b,b<w.heap.size→¬ S b→w'.heap[b]?=w.heap[b]?
theorem Exc.refl (S:Nat→Prop) (w:World):Exc S w w:=⟨rfl,rfl,rfl,Nat.le_refl _,fun _ _ _=>rfl⟩
theorem Exc.trans {S:Nat→Prop}{w w' w'':World} (h:Exc S w w') (g:Exc S w' w''):Exc S w w'':=
 ⟨g.os.trans h.os,g.tape.trans h.tape,g.output.trans h.output,Nat.le_trans h.size g.size,fun b hb hs=>(g.block b (Nat.lt_of_lt_of_le hb h.size) hs).trans (h.block b hb hs)⟩
theorem Exc.mono {S S':Nat→Prop}{w w':World} (h:Exc S w w') (k:∀ b,b<w.heap.size→S b→S' b):Exc S' w w':=⟨h.os,h.tape,h.output,h.size,fun b hb hs=>h.block b hb (fun q=>hs (k b hb q))⟩
theorem Exc.of_below {w w':World} (S:Nat→Prop) (h:Below w.heap.size w w'):Exc S w w':=⟨h.os,h.tape,h.output,h.size,fun b hb _=>h.block b hb⟩
theorem Exc.drew {S:Nat→Prop}{w w':World} (h:Exc S w w'):Exc S w w'.drew:=⟨h.os,h.tape,h.output,h.size,h.block⟩
theorem Exc.alloc {S:Nat→Prop}{w w':World} (h:Exc S w w') (o:Obj):Exc S w (w'.alloc o):=h.trans (Exc.of_below S ((Below.refl _ _).alloc (Nat.le_refl _) _))
theorem Ap.exc {p off:Nat}{r:Option Nat}{w w':World} (h:Ap p off r w w'):Exc (fun b=>b=p∨some b=r) w w':=
 ⟨h.os,h.tape,h.output,h.size,fun b hb hs=>h.block b hb (fun e=>hs (.inl e)) (fun e=>hs (.inr e))⟩
open Go.ChangeMaps (setBlock)
theorem Exc.setBlock {S:Nat→Prop}{w w':World} (h:Exc S w w') {b:Nat} (hb:S b) (o:Obj):Exc S w (Go.ChangeMaps.setBlock w' b o):=
 ⟨h.os,h.tape,h.output,by simp[Go.ChangeMaps.setBlock];exact h.size,fun k hk hs=>by
  rw[←h.block k hk hs]
  have:b≠k:=fun e=>hs (e▸hb)
  simp[Go.ChangeMaps.setBlock,Array.getElem?_setIfInBounds,this]⟩
structure NumAt (te:TypeId) (size:Nat) (w:World) (p mb:Nat) (v:Value) (vs:List Value) (tk:Nat):Prop where
 c0:w.cell? ⟨p,0,none⟩=some (.map (some mb))
 c1:w.cell? ⟨p,1,none⟩=some v
 c2:w.cell? ⟨p,2,none⟩=some (.int .i64 (tk:Int))
 fz:∀ o,w.frozen? ⟨p,o,none⟩=false
 mp:w.heap[mb]?=some (.map (numEs vs) vs.length)
 own:w.ownsRow 0 te size v vs.length (vs.flatMap fun x=>x.cells.toList)
 ne:v.ownBlock≠some p
 tl:tk≤vs.length
 sz:∀ x∈vs,x.cells.size=size
def Foot (p mb:Nat) (v:Value) (b:Nat):Prop:=b=p∨b=mb∨some b=v.ownBlock
theorem NumAt.lt {te:TypeId}{size:Nat}{w:World}{p mb:Nat}{v:Value}{vs:List Value}{tk:Nat} (h:NumAt te size w p mb v vs tk) {b:Nat} (hb:Foot p mb v b):b<w.heap.size:=by
 rcases hb with rfl|rfl|hb
 ·exact cell_lt h.c0
 ·exact(Array.getElem?_eq_some_iff.1 h.mp).1
 ·exact own_lt h.own hb.symm
theorem NumAt.keep {te:TypeId}{size:Nat}{w w':World}{p mb:Nat}{v:Value}{vs:List Value}{tk:Nat} (h:NumAt te size w p mb v vs tk) (k:∀ b,Foot p mb v b→w'.heap[b]?=w.heap[b]?):NumAt te size w' p mb v vs tk:=by
 have hp:=k p (.inl rfl)
 refine⟨?_,?_,?_,fun o=>?_,(k mb (.inr (.inl rfl))).trans h.mp,own_blk h.own (fun b e=>k b (.inr (.inr e.symm))),h.ne,h.tl,h.sz⟩
 ·rw[←h.c0];simp[World.cell?,hp]
 ·rw[←h.c1];simp[World.cell?,hp]
 ·rw[←h.c2];simp[World.cell?,hp]
 ·rw[←h.fz o];simp[World.frozen?,hp]
theorem NumAt.made (te T:TypeId) (size:Nat) (w:World):NumAt te size ((w.alloc (.map #[] 0)).alloc (.cells #[.map (some w.heap.size),.slice none 0 0,.int .i64 0] T)) (w.heap.size+1) w.heap.size (.slice none 0 0) [] 0:=by
 have e:((w.alloc (.map #[] 0)).alloc (.cells #[.map (some w.heap.size),.slice none 0 0,.int .i64 0] T)).heap[w.heap.size+1]?=some (.cells #[.map (some w.heap.size),.slice none 0 0,.int .i64 0] T):=by
  have:=heap_alloc_new (w.alloc (.map #[] 0)) (.cells #[.map (some w.heap.size),.slice none 0 0,.int .i64 0] T)
  simpa using this
 have m:((w.alloc (.map #[] 0)).alloc (.cells #[.map (some w.heap.size),.slice none 0 0,.int .i64 0] T)).heap[w.heap.size]?=some (.map (numEs []) 0):=by
  rw[Below.heap_alloc _ _ _ (by simp),heap_alloc_new]
  simp[numEs]
 generalize ((w.alloc (.map #[] 0)).alloc (.cells #[.map (some w.heap.size),.slice none 0 0,.int .i64 0] T))=W at e m
 exact⟨by simp[World.cell?,e],by simp[World.cell?,e],by simp[World.cell?,e],fun o=>by simp[World.frozen?,e],m,World.ownsRow_nil _ _ _ _,by simp[Value.ownBlock],Nat.le_refl _,by simp⟩
theorem NumAt.exc {te:TypeId}{size:Nat}{w w':World}{p mb:Nat}{v:Value}{vs:List Value}{tk:Nat}{S:Nat→Prop} (h:NumAt te size w p mb v vs tk) (k:Exc S w w') (hs:∀ b,Foot p mb v b→¬ S b):NumAt te size w' p mb v vs tk:=
 h.keep (fun b hb=>k.block b (h.lt hb) (hs b hb))
theorem flat_len {vs:List Value}{s:Nat} (h:∀ x∈vs,x.cells.size=s):(vs.flatMap fun x=>x.cells.toList).length=vs.length*s:=by
 induction vs with
 |nil=>simp
 |cons a l ih=>
  have ha:=h a (by simp)
  have:=ih (fun x hx=>h x (by simp[hx]))
  simp only[List.flatMap_cons,List.length_append,Array.length_toList,ha,this,List.length_cons,Nat.add_mul]
  omega
theorem flat_get {vs:List Value}{s:Nat} (h:∀ x∈vs,x.cells.size=s):∀ {i:Nat}{x:Value},vs[i]?=some x→∀ j,j<s→(vs.flatMap fun x=>x.cells.toList)[i*s+j]?=x.cells[j]?:=by
 induction vs with
 |nil=>intro i x hx;simp at hx
 |cons a l ih=>
  intro i x hx j hj
  have ha:=h a (by simp)
  cases i with
  |zero=>
   simp at hx;subst hx
   rw[List.flatMap_cons,List.getElem?_append_left (by simp[ha];omega)]
   simp
  |succ i=>
   simp at hx
   have:=ih (fun x hx=>h x (by simp[hx])) hx j hj
   rw[List.flatMap_cons,List.getElem?_append_right (by simp[ha,Nat.add_mul];omega),←this]
   congr 1
   simp[ha,Nat.add_mul]
   omega
theorem NumAt.at {te:TypeId}{size:Nat}{w:World}{p mb:Nat}{v:Value}{vs:List Value}{tk:Nat} (h:NumAt te size w p mb v vs tk) {i:Nat}{x:Value} (hx:vs[i]?=some x) (hs:0<size) :
  ∃ g cap,v=.slice (some ⟨g,0,none⟩) vs.length cap∧∀ j,j<size→w.cell? ⟨g,i*size+j,none⟩=x.cells[j]?:=by
 rcases h.own.2 with⟨_,hn⟩|⟨g,cap,cur,rfl,_⟩
 ·have:=(List.getElem?_eq_some_iff.1 hx).1
  omega
 ·refine⟨g,cap,rfl,fun j hj=>?_⟩
  have hi:=(List.getElem?_eq_some_iff.1 hx).1
  have hlt:i*size+j<vs.length*size:=by
   have:=Nat.mul_le_mul_right size (show i+1≤vs.length by omega)
   rw[Nat.add_mul] at this
   omega
  rw[h.own.cellAt _ hlt,flat_get h.sz hx j hj]
theorem box5 {w:World}{b:Nat}{x0 x1 x2 x3 x4:Value}{T:TypeId} (h:w.heap[b]?=some (.cells #[x0,x1,x2,x3,x4] T)):w.cell? ⟨b,0,none⟩=some x0∧w.cell? ⟨b,1,none⟩=some x1∧w.cell? ⟨b,2,none⟩=some x2∧w.cell? ⟨b,3,none⟩=some x3∧w.cell? ⟨b,4,none⟩=some x4:=by
 refine⟨?_,?_,?_,?_,?_⟩<;>simp[World.cell?,h]
abbrev stV (x0 x1 x2 x3:Nat) (b:Bool):Value:=.agg #[.int .u64 (x0:Int),.int .u64 (x1:Int),.int .u64 (x2:Int),.int .u64 (x3:Int),.bool b]
theorem Tryz.infoStt:(Tryz.prog.info? 244).map (fun i=>(i.zero,i.size,i.bytes))=some (some (.agg #[.int .u64 0,.int .u64 0,.int .u64 0,.int .u64 0,.bool false]),5,40):=by kernel_rfl
theorem addSt_any (w:World) (p off:Nat) (v:Value) (n:Nat) (xs:List Value) (x0 x1 x2 x3:Nat) (b:Bool) (hc:w.cell? ⟨p,off,none⟩=some v) (hf:w.frozen? ⟨p,off,none⟩=false) (hne:v.ownBlock≠some p)
  (ho:w.ownsRow 0 244 5 v n xs) (hn:n≤1048576) :
  Calls Tryz.prog 180 #[.pointer (some ⟨p,off,none⟩),stV x0 x1 x2 x3 b] w fun e w'=>e=.returned (.tuple #[])∧∃ g cap,w'.cell? ⟨p,off,none⟩=some (.slice (some ⟨g,0,none⟩) (n+1) cap) ∧
   w'.ownsRow 0 244 5 (.slice (some ⟨g,0,none⟩) (n+1) cap) (n+1) (xs++(stV x0 x1 x2 x3 b).cells.toList)∧g≠p∧(v.ownBlock=some g∨w.heap.size≤g)∧Ap p off v.ownBlock w w':=by
 have hp:p<w.heap.size:=cell_lt hc
 obtain⟨i0,hi0,hz0,hz1,hz2⟩:=info_parts Tryz.infoStt
 obtain⟨w1,hw1⟩:∃ w1,w1=w.alloc (.cells #[.int .u64 (x0:Int),.int .u64 (x1:Int),.int .u64 (x2:Int),.int .u64 (x3:Int),.bool b] 244):=⟨_,rfl⟩
 have hb1:Below w.heap.size w w1:=by rw[hw1];exact(Below.refl _ _).alloc (Nat.le_refl _) _
 have hc1:w1.cell? ⟨p,off,none⟩=some v:=cell_below hb1 hc
 have HO:Hid (w1.ownsRow 0 244 5 v n xs):=by rw[hw1];exact ho.alloc _
 have hx:w1.heap[w.heap.size]?=some (.cells #[.int .u64 (x0:Int),.int .u64 (x1:Int),.int .u64 (x2:Int),.int .u64 (x3:Int),.bool b] 244):=by rw[hw1];exact heap_alloc_new w _
 have HW:Hid (w1=w.alloc (.cells #[.int .u64 (x0:Int),.int .u64 (x1:Int),.int .u64 (x2:Int),.int .u64 (x3:Int),.bool b] 244)):=hw1
 obtain⟨y0,y1,y2,y3,y4⟩:=box5 hx
 clear hw1 hx
 have c0n:(w1.alloc (.cells #[.int .u64 (x0:Int),.int .u64 (x1:Int),.int .u64 (x2:Int),.int .u64 (x3:Int),.bool b] 244)).cell? ⟨p,off,none⟩=some v:=cell_below ((Below.refl _ _).alloc (Nat.le_refl _) _) hc1
 have c0e:=World.new_ne w1 ⟨p,off,none⟩ hc1
 have hl0:∀ q,v.ownBlock=some q→q<w.heap.size:=fun q e=>own_lt ho e
 have HAP:Hid (∀ {w4:World}{g:Nat} (x:Value),((v.ownBlock=some g∧(w1.alloc (.cells #[.int .u64 (x0:Int),.int .u64 (x1:Int),.int .u64 (x2:Int),.int .u64 (x3:Int),.bool b] 244)).drew.grownBy w4 (some g))∨(g=(w1.alloc (.cells #[.int .u64 (x0:Int),.int .u64 (x1:Int),.int .u64 (x2:Int),.int .u64 (x3:Int),.bool b] 244)).heap.size∧(w1.alloc (.cells #[.int .u64 (x0:Int),.int .u64 (x1:Int),.int .u64 (x2:Int),.int .u64 (x3:Int),.bool b] 244)).drew.grownBy w4 none))→Ap p off v.ownBlock w (w4.setCell ⟨p,off,none⟩ x)∧g≠p∧(v.ownBlock=some g∨w.heap.size≤g)∧w4.frozen? ⟨p,off,none⟩=false∧w4.cell? ⟨p,off,none⟩=some v):=fun {w4 g} x hg=>by
  obtain⟨a1,a2,a3,a4⟩:=ap_of (x:=x) (hb1.trans (((Below.refl _ w1).alloc (Nat.le_refl _) _).drew.mono hb1.size)) hp hne hl0 hg hf
  refine⟨a1,a2,a3,a4,?_⟩
  have:w4.heap[p]?=w.heap[p]?:=by
   rcases hg with⟨h1,h2⟩|⟨h1,h2⟩
   ·exact(h2.block p (by have:=hb1.size;simp;omega) (by rw[←h1];exact fun e=>hne e.symm)).trans ((hb1.trans (((Below.refl _ w1).alloc (Nat.le_refl _) _).drew.mono hb1.size)).block p hp)
   ·exact(h2.block p (by have:=hb1.size;simp;omega) (by simp)).trans ((hb1.trans (((Below.refl _ w1).alloc (Nat.le_refl _) _).drew.mono hb1.size)).block p hp)
  rw[←hc];simp[World.cell?,this]
 clear hb1 hc hf ho hl0 hne
 go_enter Tryz.func180,Tryz.ntmps180
 go_wp2
 rw[←HW.out]
 go_region_law (refine step_append_str _ (by rfl) (.tmp 8) (.tmp 10) 294 (by rfl) 0 244 i0 _ 5 40 Tryz.underlying294 hi0 hz0 hz1 hz2 (by rfl) (by decide) v n xs (by rfl) (show World.ownsRow _ _ _ _ _ _ _ from World.ownsRow.alloc HO.out _) ⟨w1.heap.size,0,none⟩ 1 1 [.int .u64 (x0:Int),.int .u64 (x1:Int),.int .u64 (x2:Int),.int .u64 (x3:Int),.bool b] (by rfl) (by rfl) (World.news_of_block (w:=w1.alloc (.cells #[.int .u64 (x0:Int),.int .u64 (x1:Int),.int .u64 (x2:Int),.int .u64 (x3:Int),.bool b] 244)) (heap_alloc_new w1 _)) (by simp[Value.oneCell']) (by omega) (by unfold maxLen;omega) (by omega) (Nat.zero_le _) _ (by rfl) ?_;intro g4 k4 w4 ho4 hc4 hl4;obtain⟨a1,a2,a3,f0,e0⟩:=HAP.out (.slice (some ⟨g4,0,none⟩) (n+1) k4) hc4;have HA:Hid (g4≠p∧(v.ownBlock=some g4∨w.heap.size≤g4)∧Ap p off v.ownBlock w (w4.setCell ⟨p,off,none⟩ (.slice (some ⟨g4,0,none⟩) (n+1) k4))):=⟨a2,a3,a1⟩;have HO4:Hid (w4.ownsRow 0 244 5 (.slice (some ⟨g4,0,none⟩) (n+1) k4) (n+1) (xs++[.int .u64 (x0:Int),.int .u64 (x1:Int),.int .u64 (x2:Int),.int .u64 (x3:Int),.bool b])):=ho4;clear ho4 hc4 a1 a2 a3)
 all_goals go_wp2
 all_goals refine bodyPost_end (results_none rfl _ _ _) rfl ?_
 all_goals exact⟨rfl,g4,k4,by simp[go_sem,e0],own_blk HO4.out (fun b hb=>set_blk _ _ _ _ (by simp[Value.ownBlock] at hb;rw[←hb];exact HA.out.1)),HA.out⟩
theorem newSt_any (w:World) :
  Calls Tryz.prog 129 #[] w fun e w'=>e=.returned (.pointer (some ⟨w.heap.size+1,0,none⟩))∧NumAt 244 5 w' (w.heap.size+1) w.heap.size (.slice none 0 0) [] 0∧Below w.heap.size w w':=by
 have hmk:(Instr.makeMap 293 none).run Tryz.prog w=.ok (.map (some w.heap.size)) (w.alloc (.map #[] 0)):=run_makeMap _ _
 go_enter Tryz.func129,Tryz.ntmps129
 go_wp2
 go_ret
 exact⟨rfl,NumAt.made _ _ _ w,((Below.refl _ _).alloc (Nat.le_refl _) _).alloc (by simp) _⟩
theorem countSt_any (w:World) (p mb:Nat) (v:Value) (vs:List Value) (tk:Nat) (h:NumAt 244 5 w p mb v vs tk) :
  Calls Tryz.prog 133 #[.pointer (some ⟨p,0,none⟩)] w fun e w'=>e=.returned (.int .i64 (vs.length:Int))∧w'=w:=by
 have c0:=h.c0
 have hm:=h.mp
 have hl:(Builtin.len_ #[293] 3 #[.map (some mb)]).run Tryz.prog w=.ok (.int .i64 (vs.length:Int)) w:=num_len _ Tryz.underlying293 hm
 go_enter Tryz.func133,Tryz.ntmps133
 go_wp2
 go_ret
 exact⟨rfl,rfl⟩
theorem laid0:laidOutB Tryz.prog=true:=by kernel_rfl
theorem kt_state:Tryz.prog.keyTypeAt 5 244=true:=by kernel_rfl
theorem kt_set:Tryz.prog.keyTypeAt 5 150=true:=by kernel_rfl
theorem keyed_state:Go.Maps.Keyed Tryz.prog 244:=.of_law (deep_law_laid laid0 (m:=5) (by omega) (Nat.le_of_ble_eq_true (by kernel_rfl)) kt_state (by kernel_rfl))
theorem keyed_set:Go.Maps.Keyed Tryz.prog 150:=.of_law (deep_law_laid laid0 (m:=5) (by omega) (Nat.le_of_ble_eq_true (by kernel_rfl)) kt_set (by kernel_rfl))
theorem cf_u64:Tryz.prog.cellsOf 147=1:=by kernel_rfl
theorem cf_4:Tryz.prog.cellsOf 148=4:=by kernel_rfl
theorem cf_set:Tryz.prog.cellsOf 150=4:=by kernel_rfl
theorem cf_state:Tryz.prog.cellsOf 244=5:=by kernel_rfl
theorem cf_bool:Tryz.prog.cellsOf 4=1:=by kernel_rfl
theorem wf_u64 (x:Nat) (h:x<18446744073709551616):(Lit.int .u64 (x:Int)).wf=true:=by
 have h1:IntKind.u64.min=0:=rfl
 have h2:IntKind.u64.max=18446744073709551615:=rfl
 simp[Lit.wf,h1,h2]
 omega
theorem lits_4 (d x0 x1 x2 x3:Nat) (h0:x0<18446744073709551616) (h1:x1<18446744073709551616) (h2:x2<18446744073709551616) (h3:x3<18446744073709551616) :
  Tryz.prog.keyLits (d+2) 148 [.int .u64 (x0:Int),.int .u64 (x1:Int),.int .u64 (x2:Int),.int .u64 (x3:Int)]=some [.int .u64 (x0:Int),.int .u64 (x1:Int),.int .u64 (x2:Int),.int .u64 (x3:Int)]:=by
 have r4:List.range 4=[0,1,2,3]:=rfl
 simp[Program.keyLits,Tryz.underlying148,Tryz.underlying147,cf_4,cf_u64,wf_u64,h0,h1,h2,h3,r4]
theorem lits_set (d x0 x1 x2 x3:Nat) (h0:x0<18446744073709551616) (h1:x1<18446744073709551616) (h2:x2<18446744073709551616) (h3:x3<18446744073709551616) :
  Tryz.prog.keyLits (d+3) 150 [.int .u64 (x0:Int),.int .u64 (x1:Int),.int .u64 (x2:Int),.int .u64 (x3:Int)]=some [.int .u64 (x0:Int),.int .u64 (x1:Int),.int .u64 (x2:Int),.int .u64 (x3:Int)]:=by
 have r4:List.range 4=[0,1,2,3]:=rfl
 simp[Program.keyLits,Tryz.underlying150,Tryz.underlying148,Tryz.underlying147,cf_set,cf_4,cf_u64,wf_u64,h0,h1,h2,h3,r4]
theorem lits_state (d x0 x1 x2 x3:Nat) (b:Bool) (h0:x0<18446744073709551616) (h1:x1<18446744073709551616) (h2:x2<18446744073709551616) (h3:x3<18446744073709551616) :
  Tryz.prog.keyLits (d+4) 244 [.int .u64 (x0:Int),.int .u64 (x1:Int),.int .u64 (x2:Int),.int .u64 (x3:Int),.bool b]=some [.int .u64 (x0:Int),.int .u64 (x1:Int),.int .u64 (x2:Int),.int .u64 (x3:Int),.bool b]:=by
 have r4:List.range 4=[0,1,2,3]:=rfl
 simp[Program.keyLits,Tryz.underlying244,Tryz.underlying150,Tryz.underlying148,Tryz.underlying147,Tryz.underlying4,cf_state,cf_set,cf_4,cf_u64,cf_bool,wf_u64,h0,h1,h2,h3,r4]
theorem kty_state:Tryz.prog.keyType 244=true:=by kernel_rfl
theorem kty_set:Tryz.prog.keyType 150=true:=by kernel_rfl
theorem tsz:∃ n,Tryz.prog.types.size=n+4:=⟨Tryz.prog.types.size-4,by
 have:4≤Tryz.prog.types.size:=Nat.le_of_ble_eq_true (by kernel_rfl)
 omega⟩
theorem key_set (x0 x1 x2 x3:Nat) (h0:x0<18446744073709551616) (h1:x1<18446744073709551616) (h2:x2<18446744073709551616) (h3:x3<18446744073709551616) :
  ∃ l,keyOf Tryz.prog 150 (.agg #[.int .u64 (x0:Int),.int .u64 (x1:Int),.int .u64 (x2:Int),.int .u64 (x3:Int)])=some l:=by
 obtain⟨n,hn⟩:=tsz
 simp[keyOf,Tryz.underlying150,kty_set,Value.formed,Value.cells,hn,cf_set,lits_set,h0,h1,h2,h3]
theorem key_state (x0 x1 x2 x3:Nat) (b:Bool) (h0:x0<18446744073709551616) (h1:x1<18446744073709551616) (h2:x2<18446744073709551616) (h3:x3<18446744073709551616) :
  ∃ l,keyOf Tryz.prog 244 (stV x0 x1 x2 x3 b)=some l:=by
 obtain⟨n,hn⟩:=tsz
 simp[keyOf,Tryz.underlying244,kty_state,Value.formed,Value.cells,hn,cf_state,lits_state,h0,h1,h2,h3]
theorem zi0 (w:World):(zeroValue 3).run Tryz.prog w=.ok (.int .i64 0) w:=by kernel_rfl
theorem NumAt.put {te:TypeId}{size:Nat}{w:World}{p mb:Nat}{v:Value}{vs:List Value}{tk:Nat} (h:NumAt te size w p mb v vs tk) (x:Value) :
  (setBlock w mb (.map (numEs (vs++[x])) (vs++[x]).length)).cell? ⟨p,1,none⟩=some v∧(∀ o,(setBlock w mb (.map (numEs (vs++[x])) (vs++[x]).length)).cell? ⟨p,o,none⟩=w.cell? ⟨p,o,none⟩)∧(∀ o,(setBlock w mb (.map (numEs (vs++[x])) (vs++[x]).length)).frozen? ⟨p,o,none⟩=false) ∧
   (setBlock w mb (.map (numEs (vs++[x])) (vs++[x]).length)).ownsRow 0 te size v vs.length (vs.flatMap fun x=>x.cells.toList)∧(setBlock w mb (.map (numEs (vs++[x])) (vs++[x]).length)).heap[mb]?=some (.map (numEs (vs++[x])) (vs++[x]).length) ∧
   (∀ b,b≠mb→(setBlock w mb (.map (numEs (vs++[x])) (vs++[x]).length)).heap[b]?=w.heap[b]?)∧p≠mb∧(v.ownBlock≠some mb):=by
 have hpm:p≠mb:=by
  rintro rfl
  have:=h.c0
  simp[World.cell?,h.mp] at this
 have hvm:v.ownBlock≠some mb:=by
  intro e
  rcases h.own.2 with⟨rfl,_⟩|⟨g,cap,cur,rfl,h1,h2,r⟩
  ·simp[Value.ownBlock] at e
  ·simp[Value.ownBlock] at e
   subst e
   rw[h.mp] at h2
   simp at h2
 have hblk:∀ b,b≠mb→(setBlock w mb (.map (numEs (vs++[x])) (vs++[x]).length)).heap[b]?=w.heap[b]?:=fun b hb=>by
  simp[setBlock,Array.getElem?_setIfInBounds,Ne.symm hb]
 have hmb:(setBlock w mb (.map (numEs (vs++[x])) (vs++[x]).length)).heap[mb]?=some (.map (numEs (vs++[x])) (vs++[x]).length):=by
  have:=(Array.getElem?_eq_some_iff.1 h.mp).1
  simp[setBlock,Array.getElem?_setIfInBounds,this]
 generalize setBlock w mb (.map (numEs (vs++[x])) (vs++[x]).length)=W at hblk hmb
 have hp:=hblk p hpm
 refine⟨?_,fun o=>by simp[World.cell?,hp],fun o=>?_,own_blk h.own (fun b e=>hblk b (by rintro rfl;exact hvm e)),hmb,hblk,hpm,hvm⟩
 ·rw[←h.c1];simp[World.cell?,hp]
 ·rw[←h.fz o];simp[World.frozen?,hp]
theorem ofSt_old (w:World) (p mb:Nat) (v:Value) (vs:List Value) (tk:Nat) (x0 x1 x2 x3:Nat) (b:Bool) (i:Nat) (h:NumAt 244 5 w p mb v vs tk) (hi:vs[i]?=some (stV x0 x1 x2 x3 b))
  (hr:∀ w1:World,w1.heap[mb]?=w.heap[mb]?→(Instr.lookup 293 (.map (some mb)) (stV x0 x1 x2 x3 b) true).run Tryz.prog w1=.ok (.tuple #[.int .i64 (i:Int),.bool true]) w1) :
  Calls Tryz.prog 130 #[.pointer (some ⟨p,0,none⟩),stV x0 x1 x2 x3 b] w fun e w'=>e=.returned (.int .i64 (i:Int))∧Below w.heap.size w w':=by
 obtain⟨w1,hw1⟩:∃ w1,w1=w.alloc (.cells #[.int .u64 (x0:Int),.int .u64 (x1:Int),.int .u64 (x2:Int),.int .u64 (x3:Int),.bool b] 244):=⟨_,rfl⟩
 have hb1:Below w.heap.size w w1:=by rw[hw1];exact(Below.refl _ _).alloc (Nat.le_refl _) _
 have hc1:w1.cell? ⟨p,0,none⟩=some (.map (some mb)):=cell_below hb1 h.c0
 have hx:w1.heap[w.heap.size]?=some (.cells #[.int .u64 (x0:Int),.int .u64 (x1:Int),.int .u64 (x2:Int),.int .u64 (x3:Int),.bool b] 244):=by rw[hw1];exact heap_alloc_new w _
 have hr1:=hr w1.drew (by show w1.heap[mb]?=_;exact hb1.block mb (h.lt (.inr (.inl rfl))))
 obtain⟨y0,y1,y2,y3,y4⟩:=box5 hx
 have HW:Hid (w1=w.alloc (.cells #[.int .u64 (x0:Int),.int .u64 (x1:Int),.int .u64 (x2:Int),.int .u64 (x3:Int),.bool b] 244)):=hw1
 have HB:Hid (Below w.heap.size w w1):=hb1
 clear hw1 hx hb1 h hi hr
 go_enter Tryz.func130,Tryz.ntmps130
 go_wp2
 rw[←HW.out]
 go_region
 go_wp2
 go_ret
 exact⟨rfl,HB.out.drew⟩
theorem flat_snoc (vs:List Value) (x:Value):(vs.flatMap fun x=>x.cells.toList)++x.cells.toList=(vs++[x]).flatMap fun x=>x.cells.toList:=by simp
theorem NumAt.grow {te:TypeId}{size:Nat}{w w1 w2 w3:World}{p mb:Nat}{v:Value}{vs:List Value}{tk g cap:Nat}{x:Value} (h:NumAt te size w p mb v vs tk) (hb:Below w.heap.size w w1) (h2:w2=setBlock w1 mb (.map (numEs (vs++[x])) (vs++[x]).length))
  (hc:w3.cell? ⟨p,1,none⟩=some (.slice (some ⟨g,0,none⟩) (vs.length+1) cap)) (ho:w3.ownsRow 0 te size (.slice (some ⟨g,0,none⟩) (vs.length+1) cap) (vs.length+1) ((vs.flatMap fun x=>x.cells.toList)++x.cells.toList))
  (hg:g≠p) (hf:v.ownBlock=some g∨w2.heap.size≤g) (ha:Ap p 1 v.ownBlock w2 w3) :
  NumAt te size w3 p mb (.slice (some ⟨g,0,none⟩) (vs.length+1) cap) (vs++[x]) tk∧(v.ownBlock=some g∨w.heap.size≤g)∧Exc (Foot p mb v) w w3:=by
 have h1:NumAt te size w1 p mb v vs tk:=h.keep (fun b hb'=>hb.block b (h.lt hb'))
 obtain⟨q1,q2,q3,q4,q5,q6,q7,q8⟩:=h1.put x
 rw[←h2] at q1 q2 q3 q4 q5 q6
 have hs:w2.heap.size=w1.heap.size:=by rw[h2];simp[setBlock]
 have hbs:=hb.size
 have e2:Exc (Foot p mb v) w w2:=by rw[h2];exact(Exc.of_below _ hb).setBlock (.inr (.inl rfl)) _
 have hxs:x.cells.size=size:=by
  have e1:=ho.1
  rw[List.length_append,flat_len h.sz,Nat.add_mul] at e1
  simp at e1
  omega
 refine⟨⟨?_,hc,?_,fun o=>(ha.fz o).trans (q3 o),?_,?_,?_,?_,?_⟩,?_,e2.trans (ha.exc.mono fun b _ hb'=>?_)⟩
 ·rw[ha.cell 0 (by omega),q2];exact h1.c0
 ·rw[ha.cell 2 (by omega),q2];exact h1.c2
 ·rw[ha.block mb (by rw[hs];exact h1.lt (.inr (.inl rfl))) (Ne.symm q7) (Ne.symm q8)];exact q5
 ·rw[List.length_append];rw[flat_snoc] at ho;exact ho
 ·simp[Value.ownBlock];exact hg
 ·have:=h.tl;simp;omega
 ·intro y hy
  rcases List.mem_append.1 hy with hy|hy
  ·exact h.sz y hy
  ·simp at hy;subst hy;exact hxs
 ·rcases hf with hf|hf
  ·exact .inl hf
  ·exact .inr (by omega)
 ·rcases hb' with hb'|hb'
  ·exact .inl hb'
  ·exact .inr (.inr hb')
theorem ofSt_new (w:World) (p mb:Nat) (v:Value) (vs:List Value) (tk:Nat) (x0 x1 x2 x3:Nat) (b:Bool) (h:NumAt 244 5 w p mb v vs tk) (hn:vs.length≤1048576)
  (hr:∀ w1:World,w1.heap[mb]?=w.heap[mb]?→(Instr.lookup 293 (.map (some mb)) (stV x0 x1 x2 x3 b) true).run Tryz.prog w1=.ok (.tuple #[.int .i64 0,.bool false]) w1)
  (hu:∀ w1:World,w1.heap[mb]?=w.heap[mb]?→(Instr.mapUpdate 293 (.map (some mb)) (stV x0 x1 x2 x3 b) (.int .i64 (vs.length:Int))).run Tryz.prog w1=.ok () (setBlock w1 mb (.map (numEs (vs++[stV x0 x1 x2 x3 b])) (vs++[stV x0 x1 x2 x3 b]).length))) :
  Calls Tryz.prog 130 #[.pointer (some ⟨p,0,none⟩),stV x0 x1 x2 x3 b] w fun e w'=>e=.returned (.int .i64 (vs.length:Int)) ∧
   ∃ g cap,NumAt 244 5 w' p mb (.slice (some ⟨g,0,none⟩) (vs.length+1) cap) (vs++[stV x0 x1 x2 x3 b]) tk∧(v.ownBlock=some g∨w.heap.size≤g)∧Exc (Foot p mb v) w w':=by
 obtain⟨w1,hw1⟩:∃ w1,w1=w.alloc (.cells #[.int .u64 (x0:Int),.int .u64 (x1:Int),.int .u64 (x2:Int),.int .u64 (x3:Int),.bool b] 244):=⟨_,rfl⟩
 have hb1:Below w.heap.size w w1:=by rw[hw1];exact(Below.refl _ _).alloc (Nat.le_refl _) _
 have hc1:w1.cell? ⟨p,0,none⟩=some (.map (some mb)):=cell_below hb1 h.c0
 have hx:w1.heap[w.heap.size]?=some (.cells #[.int .u64 (x0:Int),.int .u64 (x1:Int),.int .u64 (x2:Int),.int .u64 (x3:Int),.bool b] 244):=by rw[hw1];exact heap_alloc_new w _
 have hm1:w1.heap[mb]?=w.heap[mb]?:=hb1.block mb (h.lt (.inr (.inl rfl)))
 have hr1:=hr w1.drew hm1
 have hl1:(Builtin.len_ #[293] 3 #[.map (some mb)]).run Tryz.prog w1.drew=.ok (.int .i64 (vs.length:Int)) w1.drew:=num_len _ Tryz.underlying293 (show w1.heap[mb]?=_ by rw[hm1];exact h.mp)
 obtain⟨w2,hw2⟩:∃ w2,w2=setBlock w1.drew.drew mb (.map (numEs (vs++[stV x0 x1 x2 x3 b])) (vs++[stV x0 x1 x2 x3 b]).length):=⟨_,rfl⟩
 have hu1:=hu w1.drew.drew hm1
 rw[←hw2] at hu1
 have hmlt:=h.lt (.inr (.inl rfl))
 have hblk:∀ k,k≠mb→w2.heap[k]?=w1.heap[k]?:=fun k hk=>by rw[hw2];simp[setBlock,Array.getElem?_setIfInBounds,Ne.symm hk];rfl
 have hx2:w2.heap[w.heap.size]?=some (.cells #[.int .u64 (x0:Int),.int .u64 (x1:Int),.int .u64 (x2:Int),.int .u64 (x3:Int),.bool b] 244):=by rw[hblk _ (by omega)];exact hx
 obtain⟨y0,y1,y2,y3,y4⟩:=box5 hx
 obtain⟨z0,z1,z2,z3,z4⟩:=box5 hx2
 have h1:NumAt 244 5 w1.drew.drew p mb v vs tk:=h.keep (fun k hk=>hb1.block k (h.lt hk))
 obtain⟨q1,q2,q3,q4,q5,q6,q7,q8⟩:=h1.put (stV x0 x1 x2 x3 b)
 rw[←hw2] at q1 q2 q3 q4 q5 q6
 have hadd:=fun(w9:World) (e9:∀ k,w9.heap[k]?=w2.heap[k]?)=>addSt_any w9 p 1 v vs.length (vs.flatMap fun x=>x.cells.toList) x0 x1 x2 x3 b (by rw[←q1];simp[World.cell?,e9]) (by rw[←q3 1];simp[World.frozen?,e9]) h1.ne (own_blk q4 (fun k _=>e9 k)) hn
 have HADD:Hid (∀(w9:World) (e9:∀ k,w9.heap[k]?=w2.heap[k]?),Calls Tryz.prog 180 #[.pointer (some ⟨p,1,none⟩),stV x0 x1 x2 x3 b] w9 fun e w'=>e=.returned (.tuple #[])∧∃ g cap,w'.cell? ⟨p,1,none⟩=some (.slice (some ⟨g,0,none⟩) (vs.length+1) cap) ∧
   w'.ownsRow 0 244 5 (.slice (some ⟨g,0,none⟩) (vs.length+1) cap) (vs.length+1) ((vs.flatMap fun x=>x.cells.toList)++(stV x0 x1 x2 x3 b).cells.toList)∧g≠p∧(v.ownBlock=some g∨w9.heap.size≤g)∧Ap p 1 v.ownBlock w9 w'):=hadd
 have HX2:Hid (∀ w3:World,Ap p 1 v.ownBlock w2.drew w3→w3.heap[w.heap.size]?=some (.cells #[.int .u64 (x0:Int),.int .u64 (x1:Int),.int .u64 (x2:Int),.int .u64 (x3:Int),.bool b] 244)):=fun w3 a=>by
  rw[a.block w.heap.size ((Array.getElem?_eq_some_iff.1 hx2).1) (by have:=h.lt (.inl rfl);omega) (fun e=>by have:=own_lt h.own e.symm;omega)]
  exact hx2
 obtain⟨nv,hnv⟩:∃ nv,nv=vs.length:=⟨_,rfl⟩
 have HH:Hid (NumAt 244 5 w p mb v vs tk):=h
 have HNV:Hid (nv=vs.length):=hnv
 rw[←hnv] at hl1 hu1 ⊢
 have HW:Hid (w1=w.alloc (.cells #[.int .u64 (x0:Int),.int .u64 (x1:Int),.int .u64 (x2:Int),.int .u64 (x3:Int),.bool b] 244)):=hw1
 have HB:Hid (Below w.heap.size w w1.drew.drew):=hb1.drew.drew
 have HW2:Hid (w2=setBlock w1.drew.drew mb (.map (numEs (vs++[stV x0 x1 x2 x3 b])) (vs++[stV x0 x1 x2 x3 b]).length)):=hw2
 clear hw1 hx hx2 hb1 h hr hu hw2 hm1 hblk h1 q1 q2 q3 q4 q5 q6 q7 q8 hadd hnv hn hmlt
 go_enter Tryz.func130,Tryz.ntmps130
 go_wp2
 rw[←HW.out]
 go_region
 go_wp2
 go_region_law (refine step_mapUpdate _ (by rfl) (.tmp 26) (.tmp 27) (.tmp 28) 293 (by rfl) _ _ _ (by rfl) (by rfl) (by rfl) _ hu1 ?_)
 all_goals go_wp2
 all_goals go_region_held3 (fun w'=>w'.cell? ⟨w.heap.size,0,none⟩=some (.int .u64 (x0:Int))∧w'.cell? ⟨w.heap.size,1,none⟩=some (.int .u64 (x1:Int))∧w'.cell? ⟨w.heap.size,2,none⟩=some (.int .u64 (x2:Int))∧w'.cell? ⟨w.heap.size,3,none⟩=some (.int .u64 (x3:Int))∧w'.cell? ⟨w.heap.size,4,none⟩=some (.bool b)) (go_keep) ((go_at_call 180;refine(HADD.out w2.drew (fun k=>rfl)).mono ?_;rintro e w3 ⟨rfl,g,cap,a1,a2,a3,a4,a5⟩;obtain⟨r0,r1,r2,r3,r4⟩:=box5 (HX2.out w3 a5);have HN:Hid (∃ g cap,NumAt 244 5 w3 p mb (.slice (some ⟨g,0,none⟩) (nv+1) cap) (vs++[stV x0 x1 x2 x3 b]) tk∧(v.ownBlock=some g∨w.heap.size≤g)∧Exc (Foot p mb v) w w3):=(by rw[HNV.out];exact⟨g,cap,HH.out.grow HB.out HW2.out a1 a2 a3 a4 ⟨a5.os,a5.tape,a5.output,a5.size,a5.block,a5.cell,a5.fz⟩⟩);clear a1 a2 a3 a4 a5))
 all_goals go_wp2
 all_goals go_ret
 all_goals exact⟨rfl,HN.out⟩
def mkA (n:Nat) (z:Value):Array Value:=madeCells z.cells n
theorem made_one {z:Value} (hz:z.cells=#[z]) (n j:Nat) (hj:j<n):(mkA n z)[j]?=some z:=by
 simp[mkA,madeCells,hz,hj,Nat.mod_one]
theorem make_eq {t e:TypeId}{i:TypeInfo}{z:Value}{b:Nat} (ht:Tryz.prog.underlying t=some (.slice e)) (hi:Tryz.prog.info? e=some i) (hz:i.zero=some z) (h1:i.size=1) (h2:i.bytes=b) (n:Nat) (hn:b*n≤281474976710656) (hm:n≤maxLen) (w:World) :
  (Instr.makeSlice t (.int .i64 (n:Int)) (.int .i64 (n:Int))).run Tryz.prog w=.ok (.slice (some ⟨w.heap.size,0,none⟩) n n) (w.alloc (.cells (mkA n z) e)):=by
 have hb':(i.bytes:Int)*(n:Int)≤281474976710656:=by
  have h:((i.bytes*n:Nat):Int)≤281474976710656:=by rw[h2];omega
  rwa [Int.natCast_mul] at h
 have hr:=run_make (P:=Tryz.prog) w t e i z ht hi hz .i64 .i64 n n (by omega) (Int.le_refl _) hb' (by simp[maxLen] at hm;omega)
 simp only[Int.toNat_natCast,h1,Nat.mul_one] at hr
 exact hr
theorem Tryz.infoI:(Tryz.prog.info? 3).map (fun i=>(i.zero,i.size,i.bytes))=some (some (.int .i64 0),1,8):=by kernel_rfl
theorem Tryz.infoB:(Tryz.prog.info? 4).map (fun i=>(i.zero,i.size,i.bytes))=some (some (.bool false),1,1):=by kernel_rfl
theorem Tryz.infoU8:(Tryz.prog.info? 5).map (fun i=>(i.zero,i.size,i.bytes))=some (some (.int .u8 0),1,1):=by kernel_rfl
theorem Tryz.infoSt:(Tryz.prog.info? 158).map (fun i=>(i.zero,i.size,i.bytes))=some (some (.int .u8 0),1,1):=by kernel_rfl
theorem Tryz.infoLI:(Tryz.prog.info? 40).map (fun i=>(i.zero,i.size,i.bytes))=some (some (.slice none 0 0),1,24):=by kernel_rfl
theorem Tryz.infoLS:(Tryz.prog.info? 164).map (fun i=>(i.zero,i.size,i.bytes))=some (some (.slice none 0 0),1,24):=by kernel_rfl
structure Nw (w:World) (g n:Nat) (f:Nat→Value):Prop where
 c:∀ j,j<n→w.cell? ⟨g,j,none⟩=some (f j)
 fz:∀ o,w.frozen? ⟨g,o,none⟩=false
theorem Nw.new (w:World) (n:Nat) (z:Value) (hz:z.cells=#[z]) (e:TypeId):Nw (w.alloc (.cells (mkA n z) e)) w.heap.size n (fun _=>z):=
 ⟨fun j hj=>by rw[World.cell?_alloc_at _ _ _ _ rfl];exact made_one hz n j hj,fun o=>by simp[go_sem]⟩
theorem Nw.set {w:World}{g n:Nat}{f:Nat→Value} (h:Nw w g n f) (k:Nat) (hk:k<n) (v:Value):Nw (w.setCell ⟨g,k,none⟩ v) g n (fun j=>if j=k then v else f j):=by
 refine⟨fun j hj=>?_,fun o=>by simpa using h.fz o⟩
 by_cases e:j=k
 ·subst e;rw[World.cell?_setCell_same _ _ _ (h.c j hj)];simp
 ·rw[World.cell?_setCell_other _ _ _ _ (by first|(simp;done)|(simp;omega)),h.c j hj];simp[e]
theorem Nw.congr {w:World}{g n:Nat}{f f':Nat→Value} (h:Nw w g n f) (e:∀ j,j<n→f j=f' j):Nw w g n f':=⟨fun j hj=>by rw[h.c j hj,e j hj],h.fz⟩
theorem Nw.of_block {w w':World}{g n:Nat}{f:Nat→Value} (h:Nw w g n f) (e:w'.heap[g]?=w.heap[g]?):Nw w' g n f:=
 ⟨fun j hj=>by have:=h.c j hj;simp only[World.cell?] at this ⊢;rw[e];exact this,fun o=>by have:=h.fz o;simp only[World.frozen?] at this ⊢;rw[e];exact this⟩
theorem Nw.row {α:Type}{w:World}{g:Nat}{l:List α}{enc:α→Value}{c:Nat}{f:Nat→Value} (h:Nw w g l.length f) (e:∀ j (hj:j<l.length),f j=enc l[j]):RowE enc w (.slice (some ⟨g,0,none⟩) l.length c) l:=
 .inr ⟨g,0,c,rfl,fun j hj=>by rw[Nat.zero_add,h.c j hj,e j hj]⟩
theorem wrap8 (z:Int) (h:0≤z∧z<256):IntKind.u8.wrap z=z:=by
 rw[IntKind.wrap_u8];omega
theorem conv8_any (w:World) (v:Value) (zs:List Int) (hv:RowE eI w v zs) (hl:zs.length≤65536) (hz:∀ z∈zs,0≤z∧z<256) :
  Calls Tryz.prog 77 #[v] w fun e w'=>∃ g,e=.returned (.slice (some ⟨g,0,none⟩) zs.length zs.length)∧w.heap.size≤g∧g<w'.heap.size∧Nw w' g zs.length (fun j=>e8 (zs[j]?.getD 0))∧Below w.heap.size w w':=by
 obtain⟨i0,hi,hz0,hz1,hz2⟩:=info_parts Tryz.infoSt
 have hmk:=fun n hn hm w=>make_eq Tryz.underlying164 hi hz0 hz1 hz2 n hn hm w
 obtain⟨a,c,hform⟩:=hv.form
 subst hform
 obtain⟨n,hn⟩:∃ n,n=zs.length:=⟨_,rfl⟩
 have HN:Hid (n=zs.length):=hn
 rw[←hn] at hl ⊢
 have hmk1:=hmk n (by omega) (by unfold maxLen;omega)
 clear hmk
 have hB:Below w.heap.size w (w.alloc (.cells (mkA n (.int .u8 0)) 158)):=(Below.refl _ _).alloc (Nat.le_refl _) _
 have HV:Hid (RowE eI w (.slice a n c) zs):=by show RowE _ _ _ _;rw[hn];exact hv
 have HNW:Hid (Nw (w.alloc (.cells (mkA n (.int .u8 0)) 158)) w.heap.size n (fun _=>.int .u8 0)):=Nw.new w n _ rfl _
 clear hn hv
 go_enter Tryz.func77,Tryz.ntmps77
 go_wp2
 go_loopw [11] (fun i wr=>∃ k:Nat,i=.int .i64 k∧k≤n∧Nw wr w.heap.size n (fun j=>if j<k then e8 (zs[j]?.getD 0) else .int .u8 0)∧Below w.heap.size w wr∧w.heap.size<wr.heap.size) (fun i _=>n-(intOf i).toNat)
 case atStart=>exact⟨0,rfl,Nat.zero_le _,HNW.out.congr (fun j _=>by simp),hB,by simp⟩
 case round=>
  obtain⟨k,rfl,hk,hnw,hbl,hsz⟩:=hrel
  have HSZ:Hid (w.heap.size<wr.heap.size):=hsz
  clear hsz
  have HW:Hid (Nw wr w.heap.size n (fun j=>if j<k then e8 (zs[j]?.getD 0) else .int .u8 0)):=hnw
  have HBL:Hid (Below w.heap.size w wr):=hbl
  clear hnw hbl
  by_cases hlt:k<n
  ·have hlt1:k<zs.length:=by have:=HN.out;omega
   have hltI:(k:Int)<n:=by omega
   obtain⟨b,o,c',hform,hcell⟩:=(HV.out.below HBL.out).nonnil (by omega)
   injection hform with e1 e2 e3
   subst e1
   have hck:=hcell k hlt1
   obtain⟨z,hzk⟩:∃ z,z=zs[k]:=⟨_,rfl⟩
   rw[←hzk] at hck
   have HZ:Hid (z=zs[k]):=hzk
   have hw8:=wrap8 z (hz _ (by rw[hzk];exact List.getElem_mem _))
   have hc0:=HW.out.c k hlt
   simp only[Nat.lt_irrefl,if_false] at hc0
   have hf0:=HW.out.fz k
   clear hcell hzk e2 e3
   go_wp2
   go_roundw
   case rel=>
    refine⟨k+1,by go_num,by omega,(HW.out.set k hlt _).congr (fun j hj=>?_),HBL.out.setCell (p:=⟨w.heap.size,k,none⟩) (Nat.le_refl _) _,by have:=HSZ.out;simpa [World.setCell] using this⟩
    by_cases e:j=k
    ·subst e;simp[HZ.out,hlt1]
    ·simp only[e,if_false]
     by_cases h2:j<k
     ·rw[if_pos h2,if_pos (by omega)]
     ·rw[if_neg h2,if_neg (by omega)]
   case measure=>simp[intOf]<;>omega
  ·have hkI:¬(k:Int)<n:=by omega
   go_wp2
   go_ret
   exact⟨_,rfl,Nat.le_refl _,HSZ.out,HW.out.congr (fun j hj=>by rw[if_pos (by omega)]),HBL.out⟩
theorem convI_any (w:World) (v:Value) (zs:List Int) (hv:RowE e8 w v zs) (hl:zs.length≤65536) (hz:∀ z∈zs,0≤z∧z<256) :
  Calls Tryz.prog 96 #[v] w fun e w'=>∃ g,e=.returned (.slice (some ⟨g,0,none⟩) zs.length zs.length)∧w.heap.size≤g∧g<w'.heap.size∧Nw w' g zs.length (fun j=>eI (zs[j]?.getD 0))∧Below w.heap.size w w':=by
 obtain⟨i0,hi,hz0,hz1,hz2⟩:=info_parts Tryz.infoI
 have hmk:=fun n hn hm w=>make_eq Tryz.underlying40 hi hz0 hz1 hz2 n hn hm w
 obtain⟨a,c,hform⟩:=hv.form
 subst hform
 obtain⟨n,hn⟩:∃ n,n=zs.length:=⟨_,rfl⟩
 have HN:Hid (n=zs.length):=hn
 rw[←hn] at hl ⊢
 have hmk1:=hmk n (by omega) (by unfold maxLen;omega)
 clear hmk
 have hB:Below w.heap.size w (w.alloc (.cells (mkA n (.int .i64 0)) 3)):=(Below.refl _ _).alloc (Nat.le_refl _) _
 have HV:Hid (RowE e8 w (.slice a n c) zs):=by show RowE _ _ _ _;rw[hn];exact hv
 have HNW:Hid (Nw (w.alloc (.cells (mkA n (.int .i64 0)) 3)) w.heap.size n (fun _=>.int .i64 0)):=Nw.new w n _ rfl _
 clear hn hv
 go_enter Tryz.func96,Tryz.ntmps96
 go_wp2
 go_loopw [11] (fun i wr=>∃ k:Nat,i=.int .i64 k∧k≤n∧Nw wr w.heap.size n (fun j=>if j<k then eI (zs[j]?.getD 0) else .int .i64 0)∧Below w.heap.size w wr∧w.heap.size<wr.heap.size) (fun i _=>n-(intOf i).toNat)
 case atStart=>exact⟨0,rfl,Nat.zero_le _,HNW.out.congr (fun j _=>by simp),hB,by simp⟩
 case round=>
  obtain⟨k,rfl,hk,hnw,hbl,hsz⟩:=hrel
  have HSZ:Hid (w.heap.size<wr.heap.size):=hsz
  clear hsz
  have HW:Hid (Nw wr w.heap.size n (fun j=>if j<k then eI (zs[j]?.getD 0) else .int .i64 0)):=hnw
  have HBL:Hid (Below w.heap.size w wr):=hbl
  clear hnw hbl
  by_cases hlt:k<n
  ·have hlt1:k<zs.length:=by have:=HN.out;omega
   have hltI:(k:Int)<n:=by omega
   obtain⟨b,o,c',hform,hcell⟩:=(HV.out.below HBL.out).nonnil (by omega)
   injection hform with e1 e2 e3
   subst e1
   have hck:=hcell k hlt1
   obtain⟨z,hzk⟩:∃ z,z=zs[k]:=⟨_,rfl⟩
   rw[←hzk] at hck
   have HZ:Hid (z=zs[k]):=hzk
   have hzr:=hz _ (show z∈zs by rw[hzk];exact List.getElem_mem _)
   have hw8:IntKind.i64.wrap z=z:=by rw[IntKind.wrap_i64];omega
   have hc0:=HW.out.c k hlt
   simp only[Nat.lt_irrefl,if_false] at hc0
   have hf0:=HW.out.fz k
   clear hcell hzk e2 e3
   go_wp2
   go_roundw
   case rel=>
    refine⟨k+1,by go_num,by omega,(HW.out.set k hlt _).congr (fun j hj=>?_),HBL.out.setCell (p:=⟨w.heap.size,k,none⟩) (Nat.le_refl _) _,by have:=HSZ.out;simpa [World.setCell] using this⟩
    by_cases e:j=k
    ·subst e;simp[HZ.out,hlt1]
    ·simp only[e,if_false]
     by_cases h2:j<k
     ·rw[if_pos h2,if_pos (by omega)]
     ·rw[if_neg h2,if_neg (by omega)]
   case measure=>simp[intOf]<;>omega
  ·have hkI:¬(k:Int)<n:=by omega
   go_wp2
   go_ret
   exact⟨_,rfl,Nat.le_refl _,HSZ.out,HW.out.congr (fun j hj=>by rw[if_pos (by omega)]),HBL.out⟩
def rg (n:Nat) (z:Value):List Value:=(List.range n).map fun _=>z
theorem rg_len (n:Nat) (z:Value):(rg n z).length=n:=by simp[rg]
theorem rg_get (n:Nat) (z:Value) (j:Nat) (h:j<n):(rg n z)[j]?=some z:=by simp[rg,h]
def auA (f b:Bool) (s:Int) (v:Value):Array Value:=([Value.bool f,.bool b,.int .u8 s]++rg 256 (Value.int .u8 0)++rg 4 (Value.int .u64 0)++[v]).toArray
def zA:Array Value:=auA false false 0 (.slice none 0 0)
theorem zA_size:zA.size=264:=by kernel_rfl
theorem zA_ne:(zA=#[])=False:=by
 have:=zA_size
 simp only[eq_iff_iff,iff_false]
 intro e
 rw[e] at this
 simp at this
theorem Tryz.infoAu:(Tryz.prog.info? 163).map (fun i=>(i.zero,i.size))=some (some (.agg zA),264):=by kernel_rfl
theorem zA_run (w:World):(zeroValue 163).run Tryz.prog w=.ok (.agg zA) w:=by
 have h:=Tryz.infoAu
 cases hi:Tryz.prog.info? 163 with
 |none=>simp[hi] at h
 |some i=>
  simp only[hi,Option.map_some,Option.some.injEq,Prod.mk.injEq] at h
  simp[zeroValue,typeInfo,hi,h.1]
theorem zA_set (f b:Bool) (s:Int) (a:Option Addr) (n c:Nat):(((zA.setIfInBounds 0 (.bool f)).setIfInBounds 1 (.bool b)).setIfInBounds 2 (.int .u8 s)).setIfInBounds 263 (.slice a n c)=auA f b s (.slice a n c):=by kernel_rfl
end Go.Proofs.YtbjabpodkaokjaaGreatDoor

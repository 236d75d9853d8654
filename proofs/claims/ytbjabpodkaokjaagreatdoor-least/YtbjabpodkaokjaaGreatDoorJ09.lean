import Derived.Test.YtbjabpodkaokjaaGreatDoorJ07
import Derived.Test.YtbjabpodkaokjaaGreatDoorJ08
import Derived.Deep.RegionHeld3
import Derived.Deep.CutRange
set_option linter.unusedVariables false
set_option linter.unusedSimpArgs false
set_option maxHeartbeats 4000000
set_option maxRecDepth 100000
namespace Go.Proofs.YtbjabpodkaokjaaGreatDoor
open Go.RowKit
theorem write_any (w:World) (t:Tb) (va vn:Value) (kind:Nat) (big:Bool) (hk:kind≤1) (h:TabIn w t va vn) (hw:Wok t) :
  Calls Tryz.prog 59 #[tv t va vn,.int .i64 kind,.bool big] w fun e w'=>e=.returned (.string (ba (enc t kind big)))∧Below w.heap.size w w':=by
 obtain⟨w1,hw1⟩:∃ w1,w1=(w.alloc (.cells #[.bool t.front,.bool t.back,.int .i64 t.start,.string (ba t.cls),va,vn] 33)).alloc (.cells #[.bool big,.slice none 0 0] 200):=⟨_,rfl⟩
 obtain⟨g,hg⟩:∃ g,g=w.heap.size+1:=⟨_,rfl⟩
 have hwr1:WrOut g big w1 [] w1:=by
  have:=Wr.new (w.alloc (.cells #[.bool t.front,.bool t.back,.int .i64 t.start,.string (ba t.cls),va,vn] 33)) big
  rw[←hw1,World.size_alloc,←hg] at this
  exact WrOut.start this
 have HBX:Hid (Stb g w1 fun w'=>w'.heap[w.heap.size]?=some (.cells #[.bool t.front,.bool t.back,.int .i64 t.start,.string (ba t.cls),va,vn] 33)):=fun w' hb=>by
  show w'.heap[w.heap.size]?=_
  rw[hb.block _ (by omega),hw1,Below.heap_alloc _ _ _ (by simp)]
  exact heap_alloc_new _ _
 have hB1:Below w.heap.size w w1:=by rw[hw1];exact((Below.refl _ _).alloc (Nat.le_refl _) _).alloc (by simp) _
 have HB1:Hid (Below w.heap.size w w1):=hB1
 have HW1:Hid (w1=(w.alloc (.cells #[.bool t.front,.bool t.back,.int .i64 t.start,.string (ba t.cls),va,vn] 33)).alloc (.cells #[.bool big,.slice none 0 0] 200)):=hw1
 have HG:Hid (g=w.heap.size+1):=hg
 have HE:Hid (enc t kind big=hd t kind big++t.acc.map wrA++t.next.flatMap (wrRow kind big)++num4 big (crc (hd t kind big++t.acc.map wrA++t.next.flatMap (wrRow kind big)))):=by show _=_;rfl
 have hhl:=hd_len t kind big hw.cl
 have hrl:=rowsW_len kind big
 have hstb:∀ w',Below g w1 w'→Below w.heap.size w w':=fun w' hb=>hB1.trans (hb.mono (by omega))
 obtain⟨f,b,st,cls,acc,next⟩:=t
 obtain⟨s1,s2,s3,s4,s5,s6⟩:=hw
 obtain⟨hacc,⟨us,hul,hu,hr⟩⟩:=h
 simp only at *
 obtain⟨aa,ca,rfl⟩:=hacc.form
 obtain⟨bn,on,cn,hvn,hcell⟩:=hu.nonnil (by omega)
 subst hvn
 rw[hul] at HBX HW1 ⊢
 have HUN:Hid (Stb g w1 fun w'=>∀ j (hj:j<us.length),w'.cell? ⟨bn,on+j,none⟩=some us[j]):=fun w' hb j hj=>cell_below (hstb w' hb) (hcell j hj)
 have HRW:Hid (Stb g w1 fun w'=>∀ j (h1:j<us.length) (h2:j<next.length),RowE eI w' us[j] next[j]):=fun w' hb j h1 h2=>(hr j h1 h2).below (hstb w' hb)
 have HAC:Hid (Stb g w1 fun w'=>RowE eB w' (.slice aa acc.length ca) acc):=fun w' hb=>hacc.below (hstb w' hb)
 have HUL:Hid (us.length=next.length):=hul
 obtain⟨l0,hl0⟩:∃ l0,l0=(next.headD []).length:=⟨_,rfl⟩
 obtain⟨a0,c0,hu0⟩:∃ a0 c0,us[0]'(by omega)=.slice a0 l0 c0:=by
  obtain⟨a0,c0,e⟩:=(hr 0 (by omega) (by omega)).form
  refine⟨a0,c0,?_⟩
  rw[e,hl0]
  cases next with
  |nil=>simp at s2
  |cons r t=>rfl
 have hl256:l0≤256:=by
  rw[hl0]
  cases next with
  |nil=>simp
  |cons r t=>exact(s5 r (by simp)).1
 have HQ0:Hid (Stb g w1 fun w'=>w'.cell? ⟨bn,on,none⟩=some (.slice a0 l0 c0)):=fun w' hb=>by
  have:=cell_below (hstb w' hb) (hcell 0 (by omega))
  rw[←hu0];exact this
 have HS5:Hid (∀ r∈next,r.length≤256∧∀ z∈r,okZ z):=s5
 have HRL:Hid (∀ l:List (List Int),(∀ r∈l,r.length≤256)→(l.flatMap (wrRow kind big)).length≤1026*l.length):=hrl
 obtain⟨B5,hB5⟩:∃ B,B=h1 ⟨f,b,st,cls,acc,next⟩ kind big:=⟨_,rfl⟩
 have HB5:Hid (B5=mk5++[UInt8.ofNat kind]++[UInt8.ofNat (bt f+2*bt b)]++[wrA big]):=hB5
 have hl5:B5.length=8:=by rw[hB5];rfl
 obtain⟨B9,hB9⟩:∃ B,B=hd ⟨f,b,st,cls,acc,next⟩ kind big:=⟨_,rfl⟩
 have HB9:Hid (B9=B5++pr big acc.length++pr big l0++pr big st.toNat++cls):=by show _=_;rw[hB9,hd_eq,←hB5,←hl0]
 have HE9:Hid (enc ⟨f,b,st,cls,acc,next⟩ kind big=B9++acc.map wrA++next.flatMap (wrRow kind big)++num4 big (crc (B9++acc.map wrA++next.flatMap (wrRow kind big)))):=by show _=_;rw[HE.out,←hB9]
 rw[←hB9] at hhl
 have hst1:=s4.1
 have hst2:=s4.2
 have HSN:Hid (st=((st.toNat:Nat):Int)):=by show _=_;omega
 have HO1:Hid (WrOut g big w1 [] w1):=hwr1
 have hpl:=pr_len big
 clear hw1 hg hwr1 hB1 s4 hul hu hr hacc hcell hu0 hl0 s5 hrl hB5 hB9 HE hstb
 go_enter Tryz.func59,Tryz.ntmps59
 go_wp2_with (first|(go_at_call 100;refine(small_o _ g big _ (UInt8.ofNat kind) _ (by first|(simp;done)|(simp;omega)) HO2.out.wr (by simp[mk5])).mono ?_;rintro e w3 ⟨rfl,ho3⟩;have HO3:Hid (WrOut g big w1 (mk5++[UInt8.ofNat kind]) w3):=HO2.out.trans ho3;clear ho3;obtain⟨p0,p1,p2,p3,p4,p5⟩:=box6 (HBX.out w3 HO3.out.2.bl);have q0:w3.cell? ⟨bn,on,none⟩=some (.slice a0 l0 c0):=HQ0.out w3 HO3.out.2.bl)|(go_at_call 99;rw[←HW1.out,←HG.out];refine(text_o _ g big [] mk5 _ rfl HO1.out.wr (by simp[mk5]) (by simp[mk5])).mono ?_;rintro e w2 ⟨rfl,ho2⟩;have HO2:Hid (WrOut g big w1 mk5 w2):=HO1.out.trans (by simpa using ho2);clear ho2))
 go_region_held3 (fun w'=>w'.cell? ⟨w.heap.size,0,none⟩=some (.bool f)∧w'.cell? ⟨w.heap.size,1,none⟩=some (.bool b)) (go_keep) (first|(go_at_call 100;refine(small_o _ g big _ (UInt8.ofNat (bt f+2*bt b)) _ (by cases f<;>cases b<;>rfl) (HO3.out.below ((Below.refl _ _).drew)).wr (by simp[mk5])).mono ?_;rintro e w4 ⟨rfl,ho4⟩;have HO4:Hid (WrOut g big w1 (mk5++[UInt8.ofNat kind]++[UInt8.ofNat (bt f+2*bt b)]) w4):=(HO3.out.below ((Below.refl _ _).drew)).trans ho4;clear ho4;obtain⟨p0,p1,p2,p3,p4,p5⟩:=box6 (HBX.out w4 HO4.out.2.bl);have q0:w4.cell? ⟨bn,on,none⟩=some (.slice a0 l0 c0):=HQ0.out w4 HO4.out.2.bl)|(go_at_call 101;refine(bit_any _ _).mono ?_;rintro e wq ⟨rfl,hwq⟩;obtain rfl:=hwq.symm))
 rename_i hheld
 clear hheld
 go_wp2_with (first|(go_at_call 99;refine(text_o _ g big (B5++pr big acc.length++pr big l0++pr big st.toNat) cls _ rfl HO8.out.wr (by simp[hpl,hl5];omega) (by first|(simp[hpl,hl5];done)|(simp[hpl,hl5];omega))).mono ?_;rintro e w9 ⟨rfl,ho9⟩;have HO9:Hid (WrOut g big w1 B9 w9):=(by show WrOut _ _ _ _ _;rw[HB9.out];exact HO8.out.trans ho9);clear ho9;obtain⟨p0,p1,p2,p3,p4,p5⟩:=box6 (HBX.out w9 HO9.out.2.bl);have q0:w9.cell? ⟨bn,on,none⟩=some (.slice a0 l0 c0):=HQ0.out w9 HO9.out.2.bl)|(go_at_call 102;refine(pair_z _ g big (B5++pr big acc.length++pr big l0) st.toNat _ HSN.out (by omega) HO7.out.wr (by simp[hpl,hl5])).mono ?_;rintro e w8 ⟨rfl,ho8⟩;have HO8:Hid (WrOut g big w1 (B5++pr big acc.length++pr big l0++pr big st.toNat) w8):=HO7.out.trans ho8;clear ho8;obtain⟨p0,p1,p2,p3,p4,p5⟩:=box6 (HBX.out w8 HO8.out.2.bl);have q0:w8.cell? ⟨bn,on,none⟩=some (.slice a0 l0 c0):=HQ0.out w8 HO8.out.2.bl)|(go_at_call 102;refine(pair_z _ g big (B5++pr big acc.length) l0 _ rfl (by omega) HO6.out.wr (by simp[hpl,hl5])).mono ?_;rintro e w7 ⟨rfl,ho7⟩;have HO7:Hid (WrOut g big w1 (B5++pr big acc.length++pr big l0) w7):=HO6.out.trans ho7;clear ho7;obtain⟨p0,p1,p2,p3,p4,p5⟩:=box6 (HBX.out w7 HO7.out.2.bl);have q0:w7.cell? ⟨bn,on,none⟩=some (.slice a0 l0 c0):=HQ0.out w7 HO7.out.2.bl)|(go_at_call 102;refine(pair_z _ g big B5 acc.length _ rfl (by omega) HO5.out.wr (by omega)).mono ?_;rintro e w6 ⟨rfl,ho6⟩;have HO6:Hid (WrOut g big w1 (B5++pr big acc.length) w6):=HO5.out.trans ho6;clear ho6;obtain⟨p0,p1,p2,p3,p4,p5⟩:=box6 (HBX.out w6 HO6.out.2.bl);have q0:w6.cell? ⟨bn,on,none⟩=some (.slice a0 l0 c0):=HQ0.out w6 HO6.out.2.bl)|(go_at_call 100;refine(small_o _ g big _ (wrA big) _ (by cases big<;>rfl) HM5.out.wr (by simp[mk5])).mono ?_;rintro e w5 ⟨rfl,ho5⟩;have HO5:Hid (WrOut g big w1 B5 w5):=(by show WrOut _ _ _ _ _;rw[HB5.out];exact HM5.out.trans ho5);clear ho5;obtain⟨p0,p1,p2,p3,p4,p5⟩:=box6 (HBX.out w5 HO5.out.2.bl);have q0:w5.cell? ⟨bn,on,none⟩=some (.slice a0 l0 c0):=HQ0.out w5 HO5.out.2.bl)|(go_at_call 101;refine(bit_any _ _).mono ?_;rintro e wq ⟨rfl,hwq⟩;obtain rfl:=hwq.symm;have HM5:=HO4))
 clear HO1 HO2 HO3 HO4 HO5 HO6 HO7 HO8 HM5
 go_loopw [59] (fun i wr=>∃ k:Nat,i=.int .i64 k∧k≤acc.length∧WrOut g big w1 (B9++(acc.take k).map wrA) wr) (fun i _=>acc.length-(intOf i).toNat)
 case atStart=>exact⟨0,rfl,Nat.zero_le _,by simpa using HO9.out⟩
 case round=>
  obtain⟨k,rfl,hk1,hout⟩:=hrel
  clear HO9
  have hlk:(B9++(acc.take k).map wrA).length≤500:=by simp;omega
  obtain⟨B,hB⟩:∃ B,B=B9++(acc.take k).map wrA:=⟨_,rfl⟩
  have HBq:Hid (B=B9++(acc.take k).map wrA):=hB
  rw[←hB] at hlk hout
  have HW:Hid (WrOut g big w1 B wr):=hout
  clear hout hB
  by_cases hlt:k<acc.length
  ·have hltI:(k:Int)<acc.length:=by omega
   obtain⟨b',o',c',hform,hcell⟩:=(HAC.out wr HW.out.2.bl).nonnil (by omega)
   injection hform with e1 e2 e3
   subst e1
   have hck:=hcell k hlt
   obtain⟨z,hz⟩:∃ z,z=acc[k]:=⟨_,rfl⟩
   rw[←hz] at hck
   have HT:Hid ((acc.take (k+1)).map wrA=(acc.take k).map wrA++[wrA z]):=by
    show _=_
    rw[List.take_succ_eq_append_getElem hlt,←hz];simp
   clear hz e2 e3 hcell
   go_wp2_with (first|(go_at_call 100;refine(small_o _ g big B (wrA z) _ (by cases z<;>rfl) HW.out.wr (by omega)).mono ?_;rintro e w3 ⟨rfl,ho3⟩;have HO3:Hid (WrOut g big wr (B++[wrA z]) w3):=ho3;clear ho3)|(go_at_call 101;refine(bit_any _ _).mono ?_;rintro e wq ⟨rfl,hwq⟩;obtain rfl:=hwq.symm))
   go_roundw
   case rel=>
    refine⟨k+1,by go_num,by omega,?_⟩
    rw[HT.out,←List.append_assoc,←HBq.out]
    exact HW.out.trans HO3.out
   case measure=>simp[intOf]<;>omega
  ·have hkI:¬(k:Int)<acc.length:=by omega
   obtain⟨C,hC⟩:∃ C,C=B9++acc.map wrA:=⟨_,rfl⟩
   have HC:Hid (B9++acc.map wrA=C):=hC.symm
   have hlc:C.length≤500:=by rw[hC];simp;omega
   have HO9:Hid (WrOut g big w1 C wr):=by
    show WrOut _ _ _ _ _
    have h:=HW.out
    rw[HBq.out,List.take_of_length_le (by omega),←hC] at h
    exact h
   clear hC HW HBq p0 p1 p2 p3 p4 p5 q0
   obtain⟨p0,p1,p2,p3,p4,p5⟩:=box6 (HBX.out wr HO9.out.2.bl)
   go_wp2
   go_loopw [71] (fun i wr=>∃ k:Nat,i=.int .i64 k∧k≤next.length∧WrOut g big w1 (C++(next.take k).flatMap (wrRow kind big)) wr) (fun i _=>next.length-(intOf i).toNat)
   case atStart=>exact⟨0,rfl,Nat.zero_le _,by simpa using HO9.out⟩
   case round=>
    obtain⟨k,rfl,hk2,hout⟩:=hrel
    clear p0 p1 p2 p3 p4 p5 HO9
    have hlk:(C++(next.take k).flatMap (wrRow kind big)).length+2000≤1000000:=by
     have:=HRL.out (next.take k) (fun r hr=>(HS5.out r (List.mem_of_mem_take hr)).1)
     have h2:(next.take k).length≤200:=by simp;omega
     rw[List.length_append];omega
    obtain⟨B,hB⟩:∃ B,B=C++(next.take k).flatMap (wrRow kind big):=⟨_,rfl⟩
    have HBq:Hid (B=C++(next.take k).flatMap (wrRow kind big)):=hB
    rw[←hB] at hlk hout
    have HW:Hid (WrOut g big w1 B wr):=hout
    clear hout hB
    by_cases hlt:k<next.length
    ·have hltI:(k:Int)<next.length:=by omega
     have hlt1:k<us.length:=by have:=HUL.out;omega
     have hck:wr.cell? ⟨bn,on+k,none⟩=some us[k]:=HUN.out wr HW.out.2.bl k hlt1
     have hrk:Stb g wr fun w'=>RowE eI w' us[k] next[k]:=fun w' hb=>HRW.out w' (HW.out.2.bl.trans hb) k hlt1 hlt
     have hr5:=HS5.out next[k] (List.getElem_mem hlt)
     obtain⟨a2,c2,hform⟩:=hrk.now.form
     obtain⟨u,hu⟩:∃ u,u=us[k]:=⟨_,rfl⟩
     obtain⟨r,hr⟩:∃ r,r=next[k]:=⟨_,rfl⟩
     rw[←hu] at hck hrk hform
     rw[←hr] at hrk hr5 hform
     subst hform
     have HT:Hid ((next.take (k+1)).flatMap (wrRow kind big)=(next.take k).flatMap (wrRow kind big)++wrRow kind big r):=by
      show _=_
      rw[List.take_succ_eq_append_getElem hlt,List.flatMap_append,←hr];simp
     have HRK:Hid (Stb g wr fun w'=>RowE eI w' (.slice a2 r.length c2) r):=hrk
     have HR5:Hid (r.length≤256∧∀ z∈r,okZ z):=hr5
     clear hu hr hrk hr5
     go_wp2_with (go_at_call 103;refine(row_w _ g big B _ r kind _ rfl hk HW.out.wr HRK.out HR5.out.1 HR5.out.2 hlk).mono ?_;rintro e w3 ⟨rfl,ho3⟩;have HO3:Hid (WrOut g big wr (B++wrRow kind big r) w3):=ho3;clear ho3)
     go_roundw
     case rel=>
      refine⟨k+1,by go_num,by omega,?_⟩
      rw[HT.out,←List.append_assoc,←HBq.out]
      exact HW.out.trans HO3.out
     case measure=>simp[intOf]<;>omega
    ·have hkI:¬(k:Int)<next.length:=by omega
     obtain⟨D,hD⟩:∃ D,D=C++next.flatMap (wrRow kind big):=⟨_,rfl⟩
     have HD:Hid (enc ⟨f,b,st,cls,acc,next⟩ kind big=D++num4 big (crc D)):=by
      show _=_
      rw[HE9.out,HC.out,hD]
     have hBD:B=D:=by rw[HBq.out,hD,List.take_of_length_le (by omega)]
     subst hBD
     obtain⟨v5,hv5⟩:=HW.out.wr
     have d1:=hv5.c1
     have hsum:=sum_any wr v5 B (bf_row hv5.buf) (by omega)
     have hcl:=crc_lt B
     have hn4:=number4 wr g big v5 B (crc B) hcl hv5 (by omega)
     have HN4:Hid (Calls Tryz.prog 104 #[.pointer (some ⟨g,0,none⟩),.int .u32 (crc B),.int .i64 4] wr fun e w'=>e=.returned (.tuple #[])∧WrOut g big wr (B++num4 big (crc B)) w'):=hn4
     clear hn4 hD hv5
     go_wp2_with (first|(go_at_call 104;refine HN4.out.mono ?_;rintro e w6 ⟨rfl,ho6⟩;obtain⟨v6,hv6⟩:=ho6.wr;have d6:=hv6.c1;have hcv:=conv_bf hv6.buf;have HO6:Hid (WrOut g big wr (B++num4 big (crc B)) w6):=ho6;clear ho6 hv6)|(go_at_call 105;refine hsum.mono ?_;rintro e wq ⟨rfl,hwq⟩;obtain rfl:=hwq.symm))
     go_ret
     refine⟨?_,HB1.out.trans ((HW.out.2.bl.trans HO6.out.2.bl).mono (by rw[HG.out];omega))⟩
     rw[HD.out];rfl
theorem ownsRow_apart {w:World}{b1 b2 s1 s2 n1 n2:Nat}{e1 e2:TypeId}{v1 v2:Value}{x1 x2:List Value} (h1:w.ownsRow b1 e1 s1 v1 n1 x1) (h2:w.ownsRow b2 e2 s2 v2 n2 x2) (he:e1≠e2):v1.ownBlock=none∨v1.ownBlock≠v2.ownBlock:=by
 rcases h1.2 with⟨rfl,_⟩|⟨k1,c1,cur1,rfl,_,hh1,_⟩
 ·exact .inl rfl
 ·rcases h2.2 with⟨rfl,_⟩|⟨k2,c2,cur2,rfl,_,hh2,_⟩
  ·exact .inr (by simp[Value.ownBlock])
  ·refine .inr (fun e=>?_)
   simp only[Value.ownBlock,Option.some.injEq] at e
   subst e
   rw[hh1] at hh2
   injection hh2 with e
   injection e with _ e
   exact he e
structure RI (w1 wr:World) (g tb:Nat) (big:Bool) (l:List UInt8) (f bk:Bool) (st:Int) (cls:List UInt8) (va vn:Value) (acc:List Bool) (us:List Value) (rows:List (List Int)):Prop where
 rd:Rdr wr g big l
 bl:Below g w1 wr
 b0:wr.cell? ⟨tb,0,none⟩=some (.bool f)
 b1:wr.cell? ⟨tb,1,none⟩=some (.bool bk)
 b2:wr.cell? ⟨tb,2,none⟩=some (.int .i64 st)
 b3:wr.cell? ⟨tb,3,none⟩=some (.string (ba cls))
 b4:wr.cell? ⟨tb,4,none⟩=some va
 b5:wr.cell? ⟨tb,5,none⟩=some vn
 bf:∀ o,wr.frozen? ⟨tb,o,none⟩=false
 ac:wr.ownsRow (tb+1) 4 1 va acc.length (acc.map eB)
 nx:wr.ownsRow (tb+1) 40 1 vn us.length us
 ul:us.length=rows.length
 rw:∀ j (h1:j<us.length) (h2:j<rows.length),IRow wr (tb+1) us[j] rows[j]
 gt:g<tb
section
variable {w1 wr w2:World}{g tb:Nat}{big:Bool}{l l':List UInt8}{f bk:Bool}{st:Int}{cls:List UInt8}{va vn:Value}{acc:List Bool}{us:List Value}{rows:List (List Int)}
theorem RI.lt (h:RI w1 wr g tb big l f bk st cls va vn acc us rows):tb<wr.heap.size:=cell_lt h.b0
theorem RI.read (h:RI w1 wr g tb big l f bk st cls va vn acc us rows) (ho:RdOut g big wr l' w2):RI w1 w2 g tb big l' f bk st cls va vn acc us rows:=by
 have hg:=h.gt
 have e:w2.heap[tb]?=wr.heap[tb]?:=ho.2.block tb h.lt (fun e=>by injection e with e;omega)
 have hc:=fun o=>cell_of_block e o
 have hgl:=h.rd.lt
 exact⟨ho.1,h.bl.grown ho.2 (Nat.le_of_lt hgl) (fun k e=>by injection e with e;omega),(hc 0).trans h.b0,(hc 1).trans h.b1,(hc 2).trans h.b2,(hc 3).trans h.b3,(hc 4).trans h.b4,(hc 5).trans h.b5,fun o=>(frozen_of_block e o).trans (h.bf o),ownsRow_keep h.ac ho.2 (by omega),ownsRow_keep h.nx ho.2 (by omega),h.ul,fun j h1 h2=>ownsRow_keep (h.rw j h1 h2) ho.2 (by omega),hg⟩
theorem RI.below (h:RI w1 wr g tb big l f bk st cls va vn acc us rows) (hb:Below wr.heap.size wr w2):RI w1 w2 g tb big l f bk st cls va vn acc us rows:=by
 have e:w2.heap[tb]?=wr.heap[tb]?:=hb.block tb h.lt
 have hc:=fun o=>cell_of_block e o
 have hgr:wr.grownBy w2 none:=⟨hb.os,hb.tape,hb.output,hb.size,fun k hk _=>hb.block k hk⟩
 have hk:∀ {b n s:Nat}{v:Value}{e:TypeId}{xs:List Value},wr.ownsRow b e s v n xs→w2.ownsRow b e s v n xs:=fun h=>h.kept hgr (by
  rename_i v _ _
  cases e:v.ownBlock with
  |none=>exact .inl rfl
  |some k=>exact .inr (by simp))
 have hgl:=h.rd.lt
 exact⟨h.rd.below hb,h.bl.trans (hb.mono (Nat.le_of_lt hgl)),(hc 0).trans h.b0,(hc 1).trans h.b1,(hc 2).trans h.b2,(hc 3).trans h.b3,(hc 4).trans h.b4,(hc 5).trans h.b5,fun o=>(frozen_of_block e o).trans (h.bf o),hk h.ac,hk h.nx,h.ul,fun j h1 h2=>hk (h.rw j h1 h2),h.gt⟩
theorem set_keep {w:World}{base n size b o:Nat}{u v:Value}{e:TypeId}{xs:List Value} (h:w.ownsRow base e size v n xs) (hb:b<base):(w.setCell ⟨b,o,none⟩ u).ownsRow base e size v n xs:=ownsRow_keep h (grown_set w b o u) hb
theorem RI.accs (h:RI w1 wr g tb big l f bk st cls va vn acc us rows) {va':Value}{acc':List Bool} (hg:wr.grownBy w2 va.ownBlock) (ho:w2.ownsRow (tb+1) 4 1 va' acc'.length (acc'.map eB)) :
  RI w1 (w2.setCell ⟨tb,4,none⟩ va') g tb big l f bk st cls va' vn acc' us rows∧w2.cell? ⟨tb,4,none⟩=some va∧w2.frozen? ⟨tb,4,none⟩=false:=by
 have hgt:=h.gt
 have hgl:=h.rd.lt
 have htb:some tb≠va.ownBlock:=fun e=>by have:=(h.ac.lt tb e.symm).1;omega
 have hgg:some g≠va.ownBlock:=fun e=>by have:=(h.ac.lt g e.symm).1;omega
 have e:w2.heap[tb]?=wr.heap[tb]?:=hg.block tb h.lt htb
 have e2:w2.heap[g]?=wr.heap[g]?:=hg.block g hgl hgg
 have hc:=fun o=>cell_of_block e o
 have h4:=(hc 4).trans h.b4
 refine⟨⟨(h.rd.of_block e2).set (by omega) _ _,(h.bl.grown hg (Nat.le_of_lt hgl) (fun k e=>by have:=(h.ac.lt k e).1;omega)).setCell (p:=⟨tb,4,none⟩) (Nat.le_of_lt hgt) _,?_,?_,?_,?_,?_,?_,fun o=>?_,set_keep ho (by omega),set_keep (h.nx.kept hg (ownsRow_apart h.nx h.ac (by decide))) (by omega),h.ul,fun j h1 h2=>set_keep ((h.rw j h1 h2).kept hg (ownsRow_apart (h.rw j h1 h2) h.ac (by decide))) (by omega),hgt⟩,h4,(frozen_of_block e 4).trans (h.bf 4)⟩
 ·rw[World.cell?_setCell_other _ _ _ _ (by simp)];exact(hc 0).trans h.b0
 ·rw[World.cell?_setCell_other _ _ _ _ (by simp)];exact(hc 1).trans h.b1
 ·rw[World.cell?_setCell_other _ _ _ _ (by simp)];exact(hc 2).trans h.b2
 ·rw[World.cell?_setCell_other _ _ _ _ (by simp)];exact(hc 3).trans h.b3
 ·exact World.cell?_setCell_same _ _ _ h4
 ·rw[World.cell?_setCell_other _ _ _ _ (by simp)];exact(hc 5).trans h.b5
 ·rw[World.frozen?_setCell];exact(frozen_of_block e o).trans (h.bf o)
theorem RI.nexts (h:RI w1 wr g tb big l f bk st cls va vn acc us rows) {vn' u:Value}{r:List Int} (hu:IRow wr (tb+1) u r) (hg:wr.grownBy w2 vn.ownBlock) (ho:w2.ownsRow (tb+1) 40 1 vn' (us++[u]).length (us++[u])) :
  RI w1 (w2.setCell ⟨tb,5,none⟩ vn') g tb big l f bk st cls va vn' acc (us++[u]) (rows++[r])∧w2.cell? ⟨tb,5,none⟩=some vn∧w2.frozen? ⟨tb,5,none⟩=false:=by
 have hgt:=h.gt
 have hgl:=h.rd.lt
 have htb:some tb≠vn.ownBlock:=fun e=>by have:=(h.nx.lt tb e.symm).1;omega
 have hgg:some g≠vn.ownBlock:=fun e=>by have:=(h.nx.lt g e.symm).1;omega
 have e:w2.heap[tb]?=wr.heap[tb]?:=hg.block tb h.lt htb
 have e2:w2.heap[g]?=wr.heap[g]?:=hg.block g hgl hgg
 have hc:=fun o=>cell_of_block e o
 have h5:=(hc 5).trans h.b5
 refine⟨⟨(h.rd.of_block e2).set (by omega) _ _,(h.bl.grown hg (Nat.le_of_lt hgl) (fun k e=>by have:=(h.nx.lt k e).1;omega)).setCell (p:=⟨tb,5,none⟩) (Nat.le_of_lt hgt) _,?_,?_,?_,?_,?_,?_,fun o=>?_,set_keep (h.ac.kept hg (ownsRow_apart h.ac h.nx (by decide))) (by omega),set_keep ho (by omega),by simp[h.ul],fun j h1 h2=>?_,hgt⟩,h5,(frozen_of_block e 5).trans (h.bf 5)⟩
 ·rw[World.cell?_setCell_other _ _ _ _ (by simp)];exact(hc 0).trans h.b0
 ·rw[World.cell?_setCell_other _ _ _ _ (by simp)];exact(hc 1).trans h.b1
 ·rw[World.cell?_setCell_other _ _ _ _ (by simp)];exact(hc 2).trans h.b2
 ·rw[World.cell?_setCell_other _ _ _ _ (by simp)];exact(hc 3).trans h.b3
 ·rw[World.cell?_setCell_other _ _ _ _ (by simp)];exact(hc 4).trans h.b4
 ·exact World.cell?_setCell_same _ _ _ h5
 ·rw[World.frozen?_setCell];exact(frozen_of_block e o).trans (h.bf o)
 ·have hul:=h.ul
  by_cases hj:j<us.length
  ·have:=set_keep (b:=tb) (o:=5) (u:=vn') ((h.rw j hj (by omega)).kept hg (ownsRow_apart (h.rw j hj (by omega)) h.nx (by decide))) (by omega)
   rw[List.getElem_append_left hj,List.getElem_append_left (by omega)]
   exact this
  ·have:=set_keep (b:=tb) (o:=5) (u:=vn') (hu.kept hg (ownsRow_apart hu h.nx (by decide))) (by omega)
   have e1:(us++[u])[j]=u:=by rw[List.getElem_append_right (by omega)];simp
   have e2:(rows++[r])[j]=r:=by rw[List.getElem_append_right (by omega)];simp
   rw[e1,e2]
   exact this
theorem RI.tab (h:RI w1 wr g tb big l f bk st cls va vn acc us rows):TabIn wr ⟨f,bk,st,cls,acc,rows⟩ va vn:=by
 have key:∀ {α:Type}{enc:α→Value}{b:Nat}{e:TypeId}{v:Value}{xs:List α},wr.ownsRow b e 1 v xs.length (xs.map enc)→RowE enc wr v xs:=by
  intro α enc b e v xs h
  rcases h.2 with⟨rfl,hn⟩|⟨k,cap,cur,rfl,_⟩
  ·exact .inl ⟨List.length_eq_zero_iff.1 hn,_,_,rfl⟩
  ·refine .inr ⟨k,0,cap,rfl,fun j hj=>?_⟩
   rw[Nat.zero_add,h.cellAt j (by omega)]
   simp[hj]
 refine⟨key h.ac,us,h.ul,key (enc:=id) (by simpa using h.nx),fun j h1 h2=>key (h.rw j h1 h2)⟩
end
theorem Rdr.setBig {w:World}{g:Nat}{l:List UInt8} (h:Rdr w g false l) (b:Bool):Rdr (w.setCell ⟨g,0,none⟩ (.bool b)) g b l:=
 ⟨World.cell?_setCell_same _ _ _ h.c0,by rw[World.cell?_setCell_other _ _ _ _ (by simp)];exact h.c1,fun o=>by rw[World.frozen?_setCell];exact h.fz o,h.sz⟩
theorem Rdr.new (w:World) (l:List UInt8) (hl:l.length≤maxLen):Rdr (w.alloc (.cells #[.bool false,.string (ba l)] 211)) w.heap.size false l:=
 ⟨by simp[go_sem],by simp[go_sem],fun o=>by simp[go_sem],hl⟩
theorem and_u8_1 (e:Nat) (h:e<256):(bits .and .u8 (e:Int) 1 != 0)=(e%2==1):=by
 have:=(bits_nat .u8 8 (by decide) (fun n h1 h2=>by rw[IntKind.wrap_u8];omega) e 1 h (by omega)).1
 rw[show((1:Nat):Int)=1 from rfl] at this
 rw[this,Nat.and_one_is_mod]
 rcases Nat.mod_two_eq_zero_or_one e with q|q<;>rw[q]<;>rfl
theorem and_u8_2 (e:Nat) (h:e<256):(bits .and .u8 (e:Int) 2 != 0)=(e / 2%2==1):=by
 have:=(bits_nat .u8 8 (by decide) (fun n h1 h2=>by rw[IntKind.wrap_u8];omega) e 2 h (by omega)).1
 rw[show((2:Nat):Int)=2 from rfl] at this
 rw[this]
 have H:∀ i:Fin 256,((((i.val &&& 2:Nat):Int)) != 0)=(i.val / 2%2==1):=by decide
 exact H ⟨e,h⟩
open Go.RowKit
abbrev tv0:Value:=.agg #[.bool false,.bool false,.int .i64 0,.string ⟨#[]⟩,.slice none 0 0,.slice none 0 0]
abbrev tc0:Array Value:=#[.bool false,.bool false,.int .i64 0,.string ⟨#[]⟩,.slice none 0 0,.slice none 0 0]
structure Hdr (b:List UInt8) (kd:Nat) (l6:List UInt8) (en:Nat) (l7:List UInt8) (bg:Nat) (l8:List UInt8) (big:Bool) (s:Nat) (l10:List UInt8) (c:Nat) (l12:List UInt8) (st:Nat) (l14:List UInt8):Prop where
 h1:rdS (b.drop 5)=(kd,l6)
 h2:rdS l6=(en,l7)
 h3:rdS l7=(bg,l8)
 h4:(bg==1)=big
 h5:rdP big l8=(s,l10)
 h6:rdP big l10=(c,l12)
 h7:rdP big l12=(st,l14)
theorem hdr_ex (b:List UInt8):∃ kd l6 en l7 bg l8 big s l10 c l12 st l14,Hdr b kd l6 en l7 bg l8 big s l10 c l12 st l14:=⟨_,_,_,_,_,_,_,_,_,_,_,_,_,⟨rfl,rfl,rfl,rfl,rfl,rfl,rfl⟩⟩
theorem Hdr.rdT {b:List UInt8}{kd:Nat}{l6:List UInt8}{en:Nat}{l7:List UInt8}{bg:Nat}{l8:List UInt8}{big:Bool}{s:Nat}{l10:List UInt8}{c:Nat}{l12:List UInt8}{st:Nat}{l14:List UInt8} (h:Hdr b kd l6 en l7 bg l8 big s l10 c l12 st l14) :
  rdT b=if 1<kd∨s<1∨200<s∨256<c then none else some (⟨en%2==1,en / 2%2==1,st,l14.take 256,(rdA s (l14.drop 256)).1,(rdRs kd big c s (rdA s (l14.drop 256)).2).1⟩,kd,big):=by
 obtain⟨h1,h2,h3,h4,h5,h6,h7⟩:=h
 unfold Go.Proofs.YtbjabpodkaokjaaGreatDoor.rdT
 simp only[h1,h2,h3,h4,h5,h6,h7]
theorem small_at {l l':List UInt8}{x:Nat} (h:rdS l=(x,l')) (w:World) (g:Nat) (big:Bool) (hr:Rdr w g big l) :
  Calls Tryz.prog 107 #[.pointer (some ⟨g,0,none⟩)] w fun e w'=>e=.returned (.int .u8 x)∧RdOut g big w l' w':=by
 have:=small_r w g big l hr
 rw[h] at this
 exact this
theorem pair_at {big:Bool}{l l':List UInt8}{x:Nat} (h:rdP big l=(x,l')) (w:World) (g:Nat) (hr:Rdr w g big l) :
  Calls Tryz.prog 108 #[.pointer (some ⟨g,0,none⟩)] w fun e w'=>e=.returned (.int .i64 x)∧RdOut g big w l' w':=by
 have:=pair_r w g big l hr
 rw[h] at this
 exact this
theorem boxfz {w:World}{b:Nat}{cs:Array Value}{T:TypeId} (h:w.heap[b]?=some (.cells cs T)) (o:Nat):w.frozen? ⟨b,o,none⟩=false:=by simp[World.frozen?,h]
theorem read_none (w:World) (b:List UInt8) (hb:b.length≤maxLen) (hn:rdT b=none) :
  Calls Tryz.prog 60 #[.string (ba b)] w fun e w'=>e=.returned (.tuple #[tv0,.bool false])∧Below w.heap.size w w':=by
 obtain⟨kd,l6,en,l7,bg,l8,big,s,l10,c,l12,st,l14,hh⟩:=hdr_ex b
 rw[hh.rdT] at hn
 have hcond:1<kd∨s<1∨200<s∨256<c:=by
  rcases Classical.em (1<kd∨s<1∨200<s∨256<c) with q|q
  ·exact q
  ·rw[if_neg q] at hn;simp at hn
 have bk:kd<256:=by have:=rdS_lt (b.drop 5);rw[hh.h1] at this;exact this
 have bs:s<65536:=by have:=rdP_lt big l8;rw[hh.h5] at this;exact this
 have bc:c<65536:=by have:=rdP_lt big l10;rw[hh.h6] at this;exact this
 have hbig:((bg:Int)==1)=big:=by rw[←hh.h4,Bool.eq_iff_iff];simp;omega
 obtain⟨w1,hw1⟩:∃ w1,w1=(w.alloc (.cells tc0 33)).alloc (.cells #[.bool false,.string (ba b)] 211):=⟨_,rfl⟩
 obtain⟨g,hg⟩:∃ g,g=w.heap.size+1:=⟨_,rfl⟩
 have HR1:Hid (Rdr w1 g false b):=by
  have:=Rdr.new (w.alloc (.cells tc0 33)) b hb
  rw[←hw1,World.size_alloc,←hg] at this
  exact this
 have hgw:g≤w1.heap.size:=Nat.le_of_lt HR1.out.lt
 have HH:Hid (Hdr b kd l6 en l7 bg l8 big s l10 c l12 st l14):=hh
 have HW1:Hid (w1=(w.alloc (.cells tc0 33)).alloc (.cells #[.bool false,.string (ba b)] 211)):=hw1
 have HG:Hid (g=w.heap.size+1):=hg
 have HRB:Hid (Stb g w1 fun w'=>w'.heap[w.heap.size]?=some (.cells tc0 33)):=fun w' hb=>by
  show w'.heap[w.heap.size]?=_
  rw[hb.block _ (by omega),hw1,Below.heap_alloc _ _ _ (by simp)]
  exact heap_alloc_new _ _
 have HBW:Hid (Below w.heap.size w w1):=by rw[hw1];exact((Below.refl _ _).alloc (Nat.le_refl _) _).alloc (by simp) _
 clear hh hw1 hg hn hb
 by_cases c1:(1:Int)<kd
 ·clear hcond
  go_enter Tryz.func60,Tryz.ntmps60
  go_wp2_with (first|(go_at_call 108;refine(pair_at HH.out.h7 _ g HO6.out.1).mono ?_;rintro e w7 ⟨rfl,ho7⟩;have HO7:Hid (RdOut g big w5 l14 w7):=HO6.out.trans ho7;have HB7:Hid (Below g w1 w7):=HOB.out.grown HO7.out.2 (Nat.le_of_lt HOP.out.1.lt) (fun k e=>by injection e with e;omega);obtain⟨r0,r1,r2,r3,r4,r5⟩:=box6 (HRB.out w7 HB7.out);have rf:=boxfz (HRB.out w7 HB7.out);clear ho7)|(go_at_call 108;refine(pair_at HH.out.h6 _ g HOP.out.1).mono ?_;rintro e w6 ⟨rfl,ho6⟩;have HO6:Hid (RdOut g big w5 l12 w6):=HOP.out.trans ho6;clear ho6)|(go_at_call 108;refine(pair_at HH.out.h5 _ g (HO4.out.1.setBig big)).mono ?_;rintro e w5 ⟨rfl,ho5⟩;have HOB:Hid (Below g w1 w5):=(((Below.refl g w1).grown HO4.out.2 hgw (fun k e=>by injection e with e;omega)).setCell (p:=⟨g,0,none⟩) (Nat.le_refl _) _).grown ho5.2 (by have:=HO4.out.1.lt;simp[World.setCell];omega) (fun k e=>by injection e with e;omega);have HOP:Hid (RdOut g big w5 l10 w5):=⟨ho5.1,grown_refl _ _⟩;clear ho5)|(go_at_call 107;refine(small_at HH.out.h3 _ g _ HO3.out.1).mono ?_;rintro e w4 ⟨rfl,ho4⟩;have HO4:Hid (RdOut g false w1 l8 w4):=HO3.out.trans ho4;have hf4:=ho4.1.fz 0;have hc4:=ho4.1.c0;clear ho4)|(go_at_call 107;refine(small_at HH.out.h2 _ g _ HO2.out.1).mono ?_;rintro e w3 ⟨rfl,ho3⟩;have HO3:Hid (RdOut g false w1 l7 w3):=HO2.out.trans ho3;clear ho3)|(go_at_call 107;refine(small_at HH.out.h1 _ g _ HOT.out.1).mono ?_;rintro e w2 ⟨rfl,ho2⟩;have HO2:Hid (RdOut g false w1 l6 w2):=HOT.out.trans ho2;clear ho2)|(go_at_call 106;rw[←HW1.out,←HG.out];refine(text_r _ g false b 5 (by omega) HR1.out).mono ?_;rintro e wt ⟨rfl,hot⟩;have HOT:Hid (RdOut g false w1 (b.drop 5) wt):=hot;clear hot))
  refine bodyPost_ret (v:=.tuple #[tv0,.bool false]) (by simp[results,Tryz.results60,go_sem,r0,r1,r2,r3,r4,r5]) rfl ⟨rfl,?_⟩
  exact(by(repeat first|(with_reducible refine Below.setCell ?_ (by first|exact Nat.le_refl _|(simp;done)|(simp;omega)) _)|(with_reducible refine Below.alloc ?_ (by first|omega|(simp;done)|(simp;omega)) _)|(with_reducible refine Below.drew ?_));exact(HBW.out.trans (HB7.out.mono (by rw[HG.out];omega))))
 by_cases c2:(s:Int)<1
 ·clear hcond
  go_enter Tryz.func60,Tryz.ntmps60
  go_wp2_with (first|(go_at_call 108;refine(pair_at HH.out.h7 _ g HO6.out.1).mono ?_;rintro e w7 ⟨rfl,ho7⟩;have HO7:Hid (RdOut g big w5 l14 w7):=HO6.out.trans ho7;have HB7:Hid (Below g w1 w7):=HOB.out.grown HO7.out.2 (Nat.le_of_lt HOP.out.1.lt) (fun k e=>by injection e with e;omega);obtain⟨r0,r1,r2,r3,r4,r5⟩:=box6 (HRB.out w7 HB7.out);have rf:=boxfz (HRB.out w7 HB7.out);clear ho7)|(go_at_call 108;refine(pair_at HH.out.h6 _ g HOP.out.1).mono ?_;rintro e w6 ⟨rfl,ho6⟩;have HO6:Hid (RdOut g big w5 l12 w6):=HOP.out.trans ho6;clear ho6)|(go_at_call 108;refine(pair_at HH.out.h5 _ g (HO4.out.1.setBig big)).mono ?_;rintro e w5 ⟨rfl,ho5⟩;have HOB:Hid (Below g w1 w5):=(((Below.refl g w1).grown HO4.out.2 hgw (fun k e=>by injection e with e;omega)).setCell (p:=⟨g,0,none⟩) (Nat.le_refl _) _).grown ho5.2 (by have:=HO4.out.1.lt;simp[World.setCell];omega) (fun k e=>by injection e with e;omega);have HOP:Hid (RdOut g big w5 l10 w5):=⟨ho5.1,grown_refl _ _⟩;clear ho5)|(go_at_call 107;refine(small_at HH.out.h3 _ g _ HO3.out.1).mono ?_;rintro e w4 ⟨rfl,ho4⟩;have HO4:Hid (RdOut g false w1 l8 w4):=HO3.out.trans ho4;have hf4:=ho4.1.fz 0;have hc4:=ho4.1.c0;clear ho4)|(go_at_call 107;refine(small_at HH.out.h2 _ g _ HO2.out.1).mono ?_;rintro e w3 ⟨rfl,ho3⟩;have HO3:Hid (RdOut g false w1 l7 w3):=HO2.out.trans ho3;clear ho3)|(go_at_call 107;refine(small_at HH.out.h1 _ g _ HOT.out.1).mono ?_;rintro e w2 ⟨rfl,ho2⟩;have HO2:Hid (RdOut g false w1 l6 w2):=HOT.out.trans ho2;clear ho2)|(go_at_call 106;rw[←HW1.out,←HG.out];refine(text_r _ g false b 5 (by omega) HR1.out).mono ?_;rintro e wt ⟨rfl,hot⟩;have HOT:Hid (RdOut g false w1 (b.drop 5) wt):=hot;clear hot))
  refine bodyPost_ret (v:=.tuple #[tv0,.bool false]) (by simp[results,Tryz.results60,go_sem,r0,r1,r2,r3,r4,r5]) rfl ⟨rfl,?_⟩
  exact(by(repeat first|(with_reducible refine Below.setCell ?_ (by first|exact Nat.le_refl _|(simp;done)|(simp;omega)) _)|(with_reducible refine Below.alloc ?_ (by first|omega|(simp;done)|(simp;omega)) _)|(with_reducible refine Below.drew ?_));exact(HBW.out.trans (HB7.out.mono (by rw[HG.out];omega))))
 by_cases c3:(200:Int)<s
 ·clear hcond
  go_enter Tryz.func60,Tryz.ntmps60
  go_wp2_with (first|(go_at_call 108;refine(pair_at HH.out.h7 _ g HO6.out.1).mono ?_;rintro e w7 ⟨rfl,ho7⟩;have HO7:Hid (RdOut g big w5 l14 w7):=HO6.out.trans ho7;have HB7:Hid (Below g w1 w7):=HOB.out.grown HO7.out.2 (Nat.le_of_lt HOP.out.1.lt) (fun k e=>by injection e with e;omega);obtain⟨r0,r1,r2,r3,r4,r5⟩:=box6 (HRB.out w7 HB7.out);have rf:=boxfz (HRB.out w7 HB7.out);clear ho7)|(go_at_call 108;refine(pair_at HH.out.h6 _ g HOP.out.1).mono ?_;rintro e w6 ⟨rfl,ho6⟩;have HO6:Hid (RdOut g big w5 l12 w6):=HOP.out.trans ho6;clear ho6)|(go_at_call 108;refine(pair_at HH.out.h5 _ g (HO4.out.1.setBig big)).mono ?_;rintro e w5 ⟨rfl,ho5⟩;have HOB:Hid (Below g w1 w5):=(((Below.refl g w1).grown HO4.out.2 hgw (fun k e=>by injection e with e;omega)).setCell (p:=⟨g,0,none⟩) (Nat.le_refl _) _).grown ho5.2 (by have:=HO4.out.1.lt;simp[World.setCell];omega) (fun k e=>by injection e with e;omega);have HOP:Hid (RdOut g big w5 l10 w5):=⟨ho5.1,grown_refl _ _⟩;clear ho5)|(go_at_call 107;refine(small_at HH.out.h3 _ g _ HO3.out.1).mono ?_;rintro e w4 ⟨rfl,ho4⟩;have HO4:Hid (RdOut g false w1 l8 w4):=HO3.out.trans ho4;have hf4:=ho4.1.fz 0;have hc4:=ho4.1.c0;clear ho4)|(go_at_call 107;refine(small_at HH.out.h2 _ g _ HO2.out.1).mono ?_;rintro e w3 ⟨rfl,ho3⟩;have HO3:Hid (RdOut g false w1 l7 w3):=HO2.out.trans ho3;clear ho3)|(go_at_call 107;refine(small_at HH.out.h1 _ g _ HOT.out.1).mono ?_;rintro e w2 ⟨rfl,ho2⟩;have HO2:Hid (RdOut g false w1 l6 w2):=HOT.out.trans ho2;clear ho2)|(go_at_call 106;rw[←HW1.out,←HG.out];refine(text_r _ g false b 5 (by omega) HR1.out).mono ?_;rintro e wt ⟨rfl,hot⟩;have HOT:Hid (RdOut g false w1 (b.drop 5) wt):=hot;clear hot))
  refine bodyPost_ret (v:=.tuple #[tv0,.bool false]) (by simp[results,Tryz.results60,go_sem,r0,r1,r2,r3,r4,r5]) rfl ⟨rfl,?_⟩
  exact(by(repeat first|(with_reducible refine Below.setCell ?_ (by first|exact Nat.le_refl _|(simp;done)|(simp;omega)) _)|(with_reducible refine Below.alloc ?_ (by first|omega|(simp;done)|(simp;omega)) _)|(with_reducible refine Below.drew ?_));exact(HBW.out.trans (HB7.out.mono (by rw[HG.out];omega))))
 have c4:(256:Int)<c:=by omega
 clear hcond
 go_enter Tryz.func60,Tryz.ntmps60
 go_wp2_with (first|(go_at_call 108;refine(pair_at HH.out.h7 _ g HO6.out.1).mono ?_;rintro e w7 ⟨rfl,ho7⟩;have HO7:Hid (RdOut g big w5 l14 w7):=HO6.out.trans ho7;have HB7:Hid (Below g w1 w7):=HOB.out.grown HO7.out.2 (Nat.le_of_lt HOP.out.1.lt) (fun k e=>by injection e with e;omega);obtain⟨r0,r1,r2,r3,r4,r5⟩:=box6 (HRB.out w7 HB7.out);have rf:=boxfz (HRB.out w7 HB7.out);clear ho7)|(go_at_call 108;refine(pair_at HH.out.h6 _ g HOP.out.1).mono ?_;rintro e w6 ⟨rfl,ho6⟩;have HO6:Hid (RdOut g big w5 l12 w6):=HOP.out.trans ho6;clear ho6)|(go_at_call 108;refine(pair_at HH.out.h5 _ g (HO4.out.1.setBig big)).mono ?_;rintro e w5 ⟨rfl,ho5⟩;have HOB:Hid (Below g w1 w5):=(((Below.refl g w1).grown HO4.out.2 hgw (fun k e=>by injection e with e;omega)).setCell (p:=⟨g,0,none⟩) (Nat.le_refl _) _).grown ho5.2 (by have:=HO4.out.1.lt;simp[World.setCell];omega) (fun k e=>by injection e with e;omega);have HOP:Hid (RdOut g big w5 l10 w5):=⟨ho5.1,grown_refl _ _⟩;clear ho5)|(go_at_call 107;refine(small_at HH.out.h3 _ g _ HO3.out.1).mono ?_;rintro e w4 ⟨rfl,ho4⟩;have HO4:Hid (RdOut g false w1 l8 w4):=HO3.out.trans ho4;have hf4:=ho4.1.fz 0;have hc4:=ho4.1.c0;clear ho4)|(go_at_call 107;refine(small_at HH.out.h2 _ g _ HO2.out.1).mono ?_;rintro e w3 ⟨rfl,ho3⟩;have HO3:Hid (RdOut g false w1 l7 w3):=HO2.out.trans ho3;clear ho3)|(go_at_call 107;refine(small_at HH.out.h1 _ g _ HOT.out.1).mono ?_;rintro e w2 ⟨rfl,ho2⟩;have HO2:Hid (RdOut g false w1 l6 w2):=HOT.out.trans ho2;clear ho2)|(go_at_call 106;rw[←HW1.out,←HG.out];refine(text_r _ g false b 5 (by omega) HR1.out).mono ?_;rintro e wt ⟨rfl,hot⟩;have HOT:Hid (RdOut g false w1 (b.drop 5) wt):=hot;clear hot))
 refine bodyPost_ret (v:=.tuple #[tv0,.bool false]) (by simp[results,Tryz.results60,go_sem,r0,r1,r2,r3,r4,r5]) rfl ⟨rfl,?_⟩
 exact(by(repeat first|(with_reducible refine Below.setCell ?_ (by first|exact Nat.le_refl _|(simp;done)|(simp;omega)) _)|(with_reducible refine Below.alloc ?_ (by first|omega|(simp;done)|(simp;omega)) _)|(with_reducible refine Below.drew ?_));exact(HBW.out.trans (HB7.out.mono (by rw[HG.out];omega))))
theorem au_conv {w:World}{g:Nat}{f b:Bool}{s:Int}{l:List UInt8}{S:Nat→Bool}{v:Value} (h:Au w g f b s (fun j=>((l[j]?.getD 0).toNat:Int)) S v) (hl:l.length=256):(convert 73 9 (.slice (some ⟨g,3,none⟩) 256 256)).run Tryz.prog w=.ok (.string (ba l)) w:=by
 have:=run_convert_bytes_back (P:=Tryz.prog) w 73 9 5 ⟨g,3,none⟩ 256 l Tryz.underlying73 und_byte und_str (by
  intro j hj
  have:=h.cl j (by omega)
  have e:(⟨g,3,none⟩:Addr).add j=⟨g,3+j,none⟩:=by unfold Addr.add;split<;>simp_all
  rw[e]
  simpa [hj] using this)
 rw[hl] at this
 exact this
def rowAt (gs:List Nat) (next:List (List Int)) (j:Nat):Value:=
 match gs[j]? with
 |some q=>.slice (some ⟨q,0,none⟩) (next[j]?.getD []).length (next[j]?.getD []).length
 |none=>.slice none 0 0
structure TI (w wr:World) (f b:Bool) (st:Int) (cls:List UInt8) (n tT tA tB lo:Nat) (acc:List Bool) (next:List (List Int)) (gs:List Nat) (ka k:Nat):Prop where
 bl:Below w.heap.size w wr
 rb:wr.heap[w.heap.size]?=some (.cells tc0 33)
 b0:wr.cell? ⟨tT,0,none⟩=some (.bool f)
 b1:wr.cell? ⟨tT,1,none⟩=some (.bool b)
 b2:wr.cell? ⟨tT,2,none⟩=some (.int .i64 st)
 b3:wr.cell? ⟨tT,3,none⟩=some (.string (ba cls))
 b4:wr.cell? ⟨tT,4,none⟩=some (.slice (some ⟨tA,0,none⟩) n n)
 b5:wr.cell? ⟨tT,5,none⟩=some (.slice (some ⟨tB,0,none⟩) n n)
 na:Nw wr tA n (fun j=>eB (decide (j<ka)&&(acc[j]?.getD false)))
 nb:Nw wr tB n (rowAt gs next)
 gl:gs.length=k
 rows:∀ j (h:j<gs.length),Nw wr gs[j] (next[j]?.getD []).length (fun i=>eI ((next[j]?.getD [])[i]?.getD 0))∧lo≤gs[j]∧gs[j]<wr.heap.size
 mono:gs.Pairwise (· < ·)
 o:w.heap.size<tT∧w.heap.size<tA∧w.heap.size<tB∧tT<lo∧tA<lo∧tB<lo∧tT≠tA∧tT≠tB∧tA≠tB∧lo≤wr.heap.size
section
variable {w wr w2:World}{f b:Bool}{st:Int}{cls:List UInt8}{n tT tA tB lo:Nat}{acc:List Bool}{next:List (List Int)}{gs:List Nat}{ka k:Nat}
theorem TI.below (h:TI w wr f b st cls n tT tA tB lo acc next gs ka k) (hb:Below wr.heap.size wr w2):TI w w2 f b st cls n tT tA tB lo acc next gs ka k:=by
 obtain⟨o1,o2,o3,o4,o5,o6,o7,o8,o9,o10⟩:=h.o
 have hs:=hb.size
 have hT:=hb.block tT (by omega)
 have hc:=fun o=>cell_of_block hT o
 exact⟨h.bl.trans (hb.mono h.bl.size),(hb.block _ (by omega)).trans h.rb,(hc 0).trans h.b0,(hc 1).trans h.b1,(hc 2).trans h.b2,(hc 3).trans h.b3,(hc 4).trans h.b4,(hc 5).trans h.b5,h.na.of_block (hb.block tA (by omega)),h.nb.of_block (hb.block tB (by omega)),h.gl,fun j hj=>⟨(h.rows j hj).1.of_block (hb.block _ (h.rows j hj).2.2),(h.rows j hj).2.1,by have:=(h.rows j hj).2.2;omega⟩,h.mono,⟨o1,o2,o3,o4,o5,o6,o7,o8,o9,by omega⟩⟩
theorem TI.accs (h:TI w wr f b st cls n tT tA tB lo acc next gs ka k) (hk:ka<n) {s:Bool} (hs:s=(acc[ka]?.getD false)) :
  TI w (wr.setCell ⟨tA,ka,none⟩ (eB s)) f b st cls n tT tA tB lo acc next gs (ka+1) k:=by
 obtain⟨o1,o2,o3,o4,o5,o6,o7,o8,o9,o10⟩:=h.o
 have e:∀ q,q≠tA→(wr.setCell ⟨tA,ka,none⟩ (eB s)).heap[q]?=wr.heap[q]?:=fun q hq=>Below.heap_setCell _ _ _ _ (by simpa using hq)
 have hc:=fun o=>cell_of_block (e tT o7) o
 have hz:(wr.setCell ⟨tA,ka,none⟩ (eB s)).heap.size=wr.heap.size:=by simp[World.setCell]
 refine⟨h.bl.setCell (p:=⟨tA,ka,none⟩) (by simp only;omega) _,(e _ (by omega)).trans h.rb,(hc 0).trans h.b0,(hc 1).trans h.b1,(hc 2).trans h.b2,(hc 3).trans h.b3,(hc 4).trans h.b4,(hc 5).trans h.b5,(h.na.set ka hk _).congr (fun j hj=>?_),h.nb.of_block (e tB (by omega)),h.gl,fun j hj=>⟨(h.rows j hj).1.of_block (e _ (by have:=(h.rows j hj).2.1;omega)),(h.rows j hj).2.1,by rw[hz];exact(h.rows j hj).2.2⟩,h.mono,⟨o1,o2,o3,o4,o5,o6,o7,o8,o9,by omega⟩⟩
 by_cases q:j=ka
 ·subst q;simp[hs]
 ·have e2:(j<ka+1)=(j<ka):=by rw[eq_iff_iff];omega
  simp only[q,if_false,e2]
theorem TI.row (h:TI w wr f b st cls n tT tA tB lo acc next gs ka k) (hk:k<n) {q:Nat}{r:List Int} (hr:next[k]?=some r) (hb:Below wr.heap.size wr w2) (hq:wr.heap.size≤q) (hq2:q<w2.heap.size) (hn:Nw w2 q r.length fun i=>eI (r[i]?.getD 0)) :
  TI w (w2.setCell ⟨tB,k,none⟩ (.slice (some ⟨q,0,none⟩) r.length r.length)) f b st cls n tT tA tB lo acc next (gs++[q]) ka (k+1):=by
 have h2:=h.below hb
 have hold:=h.rows
 obtain⟨o1,o2,o3,o4,o5,o6,o7,o8,o9,o10⟩:=h2.o
 have o11:=h.o.2.2.2.2.2.2.2.2.2
 have e:∀ p,p≠tB→(w2.setCell ⟨tB,k,none⟩ (.slice (some ⟨q,0,none⟩) r.length r.length)).heap[p]?=w2.heap[p]?:=fun p hp=>Below.heap_setCell _ _ _ _ (by simpa using hp)
 have hc:=fun o=>cell_of_block (e tT o8) o
 have hz:(w2.setCell ⟨tB,k,none⟩ (.slice (some ⟨q,0,none⟩) r.length r.length)).heap.size=w2.heap.size:=by simp[World.setCell]
 have hgl:=h.gl
 refine⟨h2.bl.setCell (p:=⟨tB,k,none⟩) (by simp only;omega) _,(e _ (by omega)).trans h2.rb,(hc 0).trans h2.b0,(hc 1).trans h2.b1,(hc 2).trans h2.b2,(hc 3).trans h2.b3,(hc 4).trans h2.b4,(hc 5).trans h2.b5,h2.na.of_block (e tA o9),(h2.nb.set k hk _).congr (fun j hj=>?_),by simp[hgl],fun j hj=>?_,?_,⟨o1,o2,o3,o4,o5,o6,o7,o8,o9,by omega⟩⟩
 ·unfold rowAt
  by_cases p:j=k
  ·subst p
   rw[if_pos rfl,List.getElem?_append_right (by omega),hgl]
   simp[hr]
  ·rw[if_neg p]
   by_cases hjk:j<k
   ·rw[List.getElem?_append_left (by omega)]
   ·rw[show gs[j]?=none from List.getElem?_eq_none (by omega),show(gs++[q])[j]?=none from List.getElem?_eq_none (by simp;omega)]
 ·by_cases hj2:j<gs.length
  ·rw[List.getElem_append_left hj2]
   exact⟨(h2.rows j hj2).1.of_block (e _ (by have:=(h2.rows j hj2).2.1;omega)),(h2.rows j hj2).2.1,by rw[hz];exact(h2.rows j hj2).2.2⟩
  ·have hjk:j=k:=by simp at hj;omega
   subst hjk
   have e1:(gs++[q])[j]=q:=by rw[List.getElem_append_right (by omega)];simp
   rw[e1,hr]
   exact⟨(hn.of_block (e _ (by omega))).congr (fun _ _=>rfl),by omega,by rw[hz];exact hq2⟩
 ·rw[List.pairwise_append]
  refine⟨h.mono,by simp,fun x hx y hy=>?_⟩
  simp only[List.mem_singleton] at hy
  subst hy
  obtain⟨i,hi,rfl⟩:=List.mem_iff_getElem.1 hx
  have:=(hold i hi).2.2
  omega
end
open Go.RowKit
structure TabN (lo:Nat) (w:World) (t:Tb) (tA tB:Nat) (gs:List Nat):Prop where
 na:Nw w tA t.acc.length (fun j=>eB (t.acc[j]?.getD false))
 nb:Nw w tB t.next.length (rowAt gs t.next)
 gl:gs.length=t.next.length
 rows:∀ j (h:j<gs.length),Nw w gs[j] (t.next[j]?.getD []).length (fun i=>eI ((t.next[j]?.getD [])[i]?.getD 0))∧lo≤gs[j]∧gs[j]<w.heap.size
 mono:gs.Pairwise (· < ·)
 o:lo≤tA∧lo≤tB∧tA≠tB∧tA<w.heap.size∧tB<w.heap.size∧∀ q∈gs,tA<q∧tB<q
theorem TabN.set {lo:Nat}{w:World}{t:Tb}{tA tB:Nat}{gs:List Nat} (h:TabN lo w t tA tB gs) {b:Nat} (hb:b<lo) (o:Nat) (v:Value):TabN lo (w.setCell ⟨b,o,none⟩ v) t tA tB gs:=by
 have e:∀ q,lo≤q→(w.setCell ⟨b,o,none⟩ v).heap[q]?=w.heap[q]?:=fun q hq=>Below.heap_setCell _ _ _ _ (by simp only;omega)
 have hz:(w.setCell ⟨b,o,none⟩ v).heap.size=w.heap.size:=by simp[World.setCell]
 obtain⟨o1,o2,o3,o4,o5,o6⟩:=h.o
 exact⟨h.na.of_block (e _ o1),h.nb.of_block (e _ o2),h.gl,fun j hj=>⟨(h.rows j hj).1.of_block (e _ (h.rows j hj).2.1),(h.rows j hj).2.1,by rw[hz];exact(h.rows j hj).2.2⟩,h.mono,⟨o1,o2,o3,by omega,by omega,o6⟩⟩
theorem TabN.weak {lo lo':Nat}{w:World}{t:Tb}{tA tB:Nat}{gs:List Nat} (h:TabN lo w t tA tB gs) (hl:lo'≤lo):TabN lo' w t tA tB gs:=by
 obtain⟨o1,o2,o3,o4,o5,o6⟩:=h.o
 exact⟨h.na,h.nb,h.gl,fun j hj=>⟨(h.rows j hj).1,by have:=(h.rows j hj).2.1;omega,(h.rows j hj).2.2⟩,h.mono,⟨by omega,by omega,o3,o4,o5,o6⟩⟩
theorem TabN.tab {lo:Nat}{w:World}{t:Tb}{tA tB:Nat}{gs:List Nat} (h:TabN lo w t tA tB gs):TabIn w t (.slice (some ⟨tA,0,none⟩) t.acc.length t.acc.length) (.slice (some ⟨tB,0,none⟩) t.next.length t.next.length):=by
 refine⟨h.na.row (fun j hj=>by simp[hj]),gs.zipIdx.map (fun p=>rowAt gs t.next p.2),by simp[h.gl],?_,fun j h1 h2=>?_⟩
 ·have e:(gs.zipIdx.map (fun p=>rowAt gs t.next p.2)).length=t.next.length:=by simp[h.gl]
  have:=Nw.row (α:=Value) (l:=gs.zipIdx.map (fun p=>rowAt gs t.next p.2)) (enc:=id) (c:=t.next.length) (w:=w) (g:=tB) (f:=rowAt gs t.next) (by rw[e];exact h.nb) (fun j hj=>by simp)
  rw[e] at this
  exact this
 ·have hj:j<gs.length:=by simpa using h1
  have e:(gs.zipIdx.map (fun p=>rowAt gs t.next p.2))[j]=.slice (some ⟨gs[j],0,none⟩) t.next[j].length t.next[j].length:=by simp[rowAt,hj,h2]
  rw[e]
  have hr:=(h.rows j hj).1
  rw[List.getElem?_eq_getElem h2] at hr
  exact hr.row (fun i hi=>by have hi':i<t.next[j].length:=hi;simp[hi'])
theorem TI.done {w wr:World}{f b:Bool}{st:Int}{cls:List UInt8}{n tT tA tB lo:Nat}{acc:List Bool}{next:List (List Int)}{gs:List Nat} (h:TI w wr f b st cls n tT tA tB lo acc next gs n n) (h1:n=acc.length) (h2:n=next.length):TabN (w.heap.size+1) wr ⟨f,b,st,cls,acc,next⟩ tA tB gs:=by
 obtain⟨o1,o2,o3,o4,o5,o6,o7,o8,o9,o10⟩:=h.o
 refine⟨?_,?_,?_,fun j hj=>⟨(h.rows j hj).1,by have:=(h.rows j hj).2.1;omega,(h.rows j hj).2.2⟩,h.mono,⟨by omega,by omega,o9,by omega,by omega,fun q hq=>?_⟩⟩
 ·show Nw _ _ acc.length _
  rw[←h1]
  exact h.na.congr (fun j hj=>by simp[hj])
 ·show Nw _ _ next.length _
  rw[←h2]
  exact h.nb
 ·show gs.length=next.length
  rw[←h2];exact h.gl
 ·obtain⟨i,hi,rfl⟩:=List.mem_iff_getElem.1 hq
  have:=(h.rows i hi).2.1
  omega
theorem TI.start {w1 w' w:World}{f b:Bool}{st:Int}{cls:List UInt8}{n tT tA tB:Nat}{acc:List Bool}{next:List (List Int)} (hw1:w1=w.alloc (.cells tc0 33)) (hb:Below w1.heap.size w1 w')
  (hT:w'.heap[tT]?=some (.cells #[.bool f,.bool b,.int .i64 st,.string (ba cls),.slice (some ⟨tA,0,none⟩) n n,.slice (some ⟨tB,0,none⟩) n n] 33)) (hA:w'.heap[tA]?=some (.cells (mkA n (.bool false)) 4)) (hB:w'.heap[tB]?=some (.cells (mkA n (.slice none 0 0)) 40))
  (o:w1.heap.size≤tT∧w1.heap.size≤tA∧w1.heap.size≤tB∧tT≠tA∧tT≠tB∧tA≠tB):TI w w' f b st cls n tT tA tB w'.heap.size acc next [] 0 0:=by
 obtain⟨p0,p1,p2,p3,p4,p5⟩:=box6 hT
 have hs:w1.heap.size=w.heap.size+1:=by rw[hw1];simp
 have key:∀ {q:Nat}{z:Value}{e:TypeId},w'.heap[q]?=some (.cells (mkA n z) e)→z.cells=#[z]→Nw w' q n (fun _=>z):=fun h hz=>⟨fun j hj=>by simp only[World.cell?,h];exact made_one hz n j hj,fun o=>by simp[World.frozen?,h]⟩
 have l1:=(Array.getElem?_eq_some_iff.1 hT).1
 have l2:=(Array.getElem?_eq_some_iff.1 hA).1
 have l3:=(Array.getElem?_eq_some_iff.1 hB).1
 have hB1:Below w.heap.size w w1:=by rw[hw1];exact(Below.refl _ _).alloc (Nat.le_refl _) _
 refine⟨hB1.trans (hb.mono (by omega)),?_,p0,p1,p2,p3,p4,p5,(key hA rfl).congr (fun j _=>by simp),(key hB rfl).congr (fun j _=>by simp[rowAt]),rfl,fun j h=>by simp at h,List.Pairwise.nil,⟨by omega,by omega,by omega,l1,l2,l3,o.2.2.2.1,o.2.2.2.2.1,o.2.2.2.2.2,Nat.le_refl _⟩⟩
 rw[hb.block _ (by omega),hw1]
 exact heap_alloc_new _ _
theorem al0 (w:World) (X Y Z:Obj):(((w.alloc X).alloc Y).alloc Z).drew.heap[w.heap.size]?=some X:=
 (Below.heap_alloc ((w.alloc X).alloc Y) Z _ (by simp;omega)).trans ((Below.heap_alloc (w.alloc X) Y _ (by simp)).trans (heap_alloc_new w X))
theorem al1 (w:World) (X Y Z:Obj):(((w.alloc X).alloc Y).alloc Z).drew.heap[w.heap.size+1]?=some Y:=by
 have:=(Below.heap_alloc ((w.alloc X).alloc Y) Z (w.alloc X).heap.size (by simp)).trans (heap_alloc_new (w.alloc X) Y)
 rw[World.size_alloc] at this
 exact this
theorem al2 (w:World) (X Y Z:Obj):(((w.alloc X).alloc Y).alloc Z).drew.heap[w.heap.size+1+1]?=some Z:=by
 have:=heap_alloc_new ((w.alloc X).alloc Y) Z
 rw[World.size_alloc,World.size_alloc] at this
 exact this
theorem al3 (w:World) (X Y Z:Obj):Below w.heap.size w (((w.alloc X).alloc Y).alloc Z).drew:=((((Below.refl _ _).alloc (Nat.le_refl _) _).alloc (by simp) _).alloc (by simp;omega) _).drew
theorem table_any (w:World) (g:Nat) (t:Tb) (c:Nat) (h:AuIn w g t) (hok:TbOk t c) :
  Calls Tryz.prog 50 #[.pointer (some ⟨g,0,none⟩)] w fun e w'=>∃ tA tB gs,e=.returned (tv t (.slice (some ⟨tA,0,none⟩) t.acc.length t.acc.length) (.slice (some ⟨tB,0,none⟩) t.next.length t.next.length))∧TabN w.heap.size w' t tA tB gs∧Below w.heap.size w w':=by
 obtain⟨S,v,hau,hS,hrows⟩:=h.au
 obtain⟨us,hul,hu,hr⟩:=hrows
 have h256:=hok.c256.2
 have hc256:=hok.c256.1
 have a1:=hok.a1
 have a2:=hok.a2
 have hn:=hok.n
 have hrr:=hok.r
 obtain⟨bn,on,cn,hv,hcell⟩:=hu.nonnil (by omega)
 subst hv
 rw[hul,hn] at hau
 obtain⟨n,hnn⟩:∃ n,n=t.acc.length:=⟨_,rfl⟩
 have HN:Hid (n=t.acc.length∧n=t.next.length∧n=us.length):=⟨hnn,by rw[hn,hnn],by rw[hul,hn,hnn]⟩
 rw[←hnn] at hau a1 a2
 obtain⟨w1,hw1⟩:∃ w1,w1=w.alloc (.cells tc0 33):=⟨_,rfl⟩
 have hB1:Below w.heap.size w w1:=by rw[hw1];exact(Below.refl _ _).alloc (Nat.le_refl _) _
 have hau1:Au w1 g t.front t.back t.start (fun j=>((t.cls[j]?.getD 0).toNat:Int)) S (.slice (some ⟨bn,on,none⟩) n cn):=hau.of_block (hB1.block g hau.lt)
 have hglt:=hau.lt
 have hglt1:=hau1.lt
 have HCV:Hid (∀ w',w'.heap[g]?=w1.heap[g]?→(convert 73 9 (.slice (some ⟨g,3,none⟩) 256 256)).run Tryz.prog w'=.ok (.string (ba t.cls)) w'):=fun w' e=>au_conv (hau1.of_block e) h256
 have hcv:(convert 73 9 (.slice (some ⟨g,3,none⟩) 256 256)).run Tryz.prog w1.drew=.ok (.string (ba t.cls)) w1.drew:=HCV.out _ rfl
 have k0:=hau1.c0
 have k1:=hau1.c1
 have k2:=hau1.c2
 have k5:=hau1.cn
 have n0:=World.new_ne w1 ⟨g,0,none⟩ k0
 have hs1:=hok.s1
 have hs2:=hok.s2
 have hst:IntKind.i64.wrap t.start=t.start:=by rw[IntKind.wrap_i64];omega
 obtain⟨ib,hib,hzb0,hzb1,hzb2⟩:=info_parts Tryz.infoB
 obtain⟨il,hil,hzl0,hzl1,hzl2⟩:=info_parts Tryz.infoLI
 have hmkb:=fun w=>make_eq Tryz.underlying30 hib hzb0 hzb1 hzb2 n (by omega) (by unfold maxLen;omega) w
 have hmkl:=fun w=>make_eq Tryz.underlying31 hil hzl0 hzl1 hzl2 n (by omega) (by unfold maxLen;omega) w
 have HW1:Hid (w1=w.alloc (.cells tc0 33)):=hw1
 have HAU:Hid (Au w g t.front t.back t.start (fun j=>((t.cls[j]?.getD 0).toNat:Int)) S (.slice (some ⟨bn,on,none⟩) n cn)):=hau
 have HS:Hid (∀ j,j<256→S j=(t.acc[j]?.getD false)):=hS
 have HUC:Hid (∀ j (hj:j<us.length),w.cell? ⟨bn,on+j,none⟩=some us[j]):=hcell
 have HRW:Hid (∀ j (h1:j<us.length) (h2:j<t.next.length),RowE e8 w us[j] t.next[j]):=hr
 have HRR:Hid (∀ r∈t.next,r.length=c∧∀ z∈r,0≤z∧z<t.acc.length):=hrr
 clear hw1 hB1 hau hnn hau1 hS hcell hr hrr hn hul hu
 obtain⟨f,b,st,cls,acc,next⟩:=t
 simp only at *
 have hkd1:∀(o:Obj),(w1.alloc o).drew.heap[g]?=w1.heap[g]?:=fun o=>Below.heap_alloc w1 o g hglt1
 have hkd2:∀(o p:Obj),((w1.alloc o).alloc p).drew.heap[g]?=w1.heap[g]?:=fun o p=>(Below.heap_alloc (w1.alloc o) p g (by simp;omega)).trans (Below.heap_alloc w1 o g hglt1)
 have hkd3:∀(o p q:Obj),(((w1.alloc o).alloc p).alloc q).drew.heap[g]?=w1.heap[g]?:=fun o p q=>(Below.heap_alloc ((w1.alloc o).alloc p) q g (by simp;omega)).trans ((Below.heap_alloc (w1.alloc o) p g (by simp;omega)).trans (Below.heap_alloc w1 o g hglt1))
 have HK1:Hid (∀(o:Obj),(w1.alloc o).drew.heap[g]?=w1.heap[g]?):=hkd1
 have HK2:Hid (∀(o p:Obj),((w1.alloc o).alloc p).drew.heap[g]?=w1.heap[g]?):=hkd2
 have HK3:Hid (∀(o p q:Obj),(((w1.alloc o).alloc p).alloc q).drew.heap[g]?=w1.heap[g]?):=hkd3
 clear hkd1 hkd2 hkd3
 have HALL:Hid (∀ w',w'.heap[g]?=w1.heap[g]?→(w'.cell? ⟨g,0,none⟩=some (.bool f)∧w'.cell? ⟨g,1,none⟩=some (.bool b)∧w'.cell? ⟨g,2,none⟩=some (.int .u8 st)∧w'.cell? ⟨g,263,none⟩=some (.slice (some ⟨bn,on,none⟩) n cn)∧(convert 73 9 (.slice (some ⟨g,3,none⟩) 256 256)).run Tryz.prog w'=.ok (.string (ba cls)) w')):=fun w' e=>⟨(cell_of_block e 0).trans k0,(cell_of_block e 1).trans k1,(cell_of_block e 2).trans k2,(cell_of_block e 263).trans k5,HCV.out _ e⟩
 go_enter Tryz.func50,Tryz.ntmps50
 go_wp2
 rw[←HW1.out]
 go_cut [3] from 6 to 36 (fun s wc=>∃ tT tA tB,s=.pointer (some ⟨tT,0,none⟩)∧TI w wc f b st cls n tT tA tB wc.heap.size acc next [] 0 0)
 case first=>
  go_region_held3 (fun w'=>w'.cell? ⟨g,0,none⟩=some (.bool f)∧w'.cell? ⟨g,1,none⟩=some (.bool b)∧w'.cell? ⟨g,2,none⟩=some (.int .u8 st)∧w'.cell? ⟨g,263,none⟩=some (.slice (some ⟨bn,on,none⟩) n cn)∧(convert 73 9 (.slice (some ⟨g,3,none⟩) 256 256)).run Tryz.prog w'=.ok (.string (ba cls)) w') (first|exact HALL.out _ rfl|exact HALL.out _ (HK1.out _)|exact HALL.out _ (HK2.out _ _)|exact HALL.out _ (HK3.out _ _ _)) (fail)
  all_goals
   go_wp2
   go_meet
   refine⟨_,_,_,rfl,TI.start HW1.out (al3 _ _ _ _) (by first|exact al0 _ _ _ _|exact al1 _ _ _ _|exact al2 _ _ _ _) (by first|exact al0 _ _ _ _|exact al1 _ _ _ _|exact al2 _ _ _ _) (by first|exact al0 _ _ _ _|exact al1 _ _ _ _|exact al2 _ _ _ _) (by refine⟨?_,?_,?_,?_,?_,?_⟩<;>omega)⟩
 case rest=>
  obtain⟨tT,tA,tB,rfl,hti⟩:=hcut
  obtain⟨lo,hlo⟩:∃ lo,lo=wc.heap.size:=⟨_,rfl⟩
  rw[←hlo] at hti
  clear hlo hcv k0 k1 k2 k5 n0 hmkb hmkl HALL HK1 HK2 HK3 HCV HW1 hst hzb0 hzb1 hzb2 hzl0 hzl1 hzl2 hib hil hglt1
  have c5:wc.cell? ⟨g,263,none⟩=some (.slice (some ⟨bn,on,none⟩) n cn):=cell_below hti.bl HAU.out.cn
  have HTI:Hid (TI w wc f b st cls n tT tA tB lo acc next [] 0 0):=hti
  clear hti
  go_wp2
  go_loopw [42] (fun i wr=>∃ k:Nat,∃ gs,i=.int .i64 k∧k≤n∧TI w wr f b st cls n tT tA tB lo acc next gs k k) (fun i _=>n-(intOf i).toNat)
  case atStart=>exact⟨0,[],rfl,Nat.zero_le _,HTI.out⟩
  case round=>
   obtain⟨k,gs,rfl,hk,hti⟩:=hrel
   clear HTI c5
   have HTI:Hid (TI w wr f b st cls n tT tA tB lo acc next gs k k):=hti
   by_cases hlt:k<n
   ·have hltI:(k:Int)<n:=by omega
    have h0I:(0:Int)≤(k:Int):=by omega
    have hk1:k<us.length:=by have:=HN.out.2.2;omega
    have hk2:k<next.length:=by have:=HN.out.2.1;omega
    have hck:=cell_below hti.bl (HUC.out k hk1)
    have hrk:=HRW.out k hk1 hk2
    have hrr:=HRR.out next[k] (List.getElem_mem hk2)
    obtain⟨u,hu⟩:∃ u,u=us[k]:=⟨_,rfl⟩
    obtain⟨r,hre⟩:∃ r,r=next[k]:=⟨_,rfl⟩
    rw[←hu] at hck hrk
    rw[←hre] at hrk hrr
    have HRE:Hid (next[k]?=some r):=by show _=_;rw[hre];exact List.getElem?_eq_getElem hk2
    have HRK:Hid (RowE e8 w u r):=hrk
    have HRB:Hid (r.length≤65536∧∀ z∈r,0≤z∧z<256):=⟨by have:=hrr.1;omega,fun z hz=>by have:=hrr.2 z hz;have:=HN.out.1;omega⟩
    obtain⟨x0,x1,x2,x3,hset⟩:=(HAU.out.of_block (hti.bl.block g hglt)).st
    have q0:=hset.c0
    have q1:=hset.c1
    have q2:=hset.c2
    have q3:=hset.c3
    have b4:=hti.b4
    have hSk:S k=(acc[k]?.getD false):=HS.out k (by omega)
    have HSK:Hid (S k=(acc[k]?.getD false)):=hSk
    have hw8k:=wrap8 (k:Int) (by omega)
    have hhas:=has_any wr.drew x0 x1 x2 x3 k S (by omega) hset.wd
    obtain⟨sk,hsk⟩:∃ s,s=S k:=⟨_,rfl⟩
    rw[←hsk] at hhas HSK
    obtain⟨o1,o2,o3,o4,o5,o6,o7,o8,o9,o10⟩:=hti.o
    have m1:tA≠tT:=fun e=>o7 e.symm
    have m2:tB≠tT:=fun e=>o8 e.symm
    have m3:tA≠g:=by omega
    have m4:g≠tA:=by omega
    clear hu hre hrk hrr hset hSk hsk hti
    go_wp2
    go_region_held3 (fun w'=>w'.cell? ⟨tT,4,none⟩=some (.slice (some ⟨tA,0,none⟩) n n)∧w'.cell? ⟨g,259,none⟩=some (.int .u64 x0)∧w'.cell? ⟨g,260,none⟩=some (.int .u64 x1)∧w'.cell? ⟨g,261,none⟩=some (.int .u64 x2)∧w'.cell? ⟨g,262,none⟩=some (.int .u64 x3)) (go_keep) ((go_at_call 95;refine hhas.mono ?_;rintro e w2 ⟨rfl,hb2⟩;have HT2:Hid (TI w w2 f b st cls n tT tA tB lo acc next gs k k):=(HTI.out.below ((Below.refl _ _).drew)).below hb2;have d4:=HT2.out.b4;have e0:=cell_below hb2 q0;have e1:=cell_below hb2 q1;have e2:=cell_below hb2 q2;have e3:=cell_below hb2 q3;have da:=HT2.out.na.c k hlt;have df:=HT2.out.na.fz k;clear hb2))
    rename_i hheld
    clear hheld
    have HT3:Hid (TI w (w2.setCell ⟨tA,k,none⟩ (.bool sk)) f b st cls n tT tA tB lo acc next gs (k+1) k):=HT2.out.accs hlt HSK.out
    generalize (w2.setCell ⟨tA,k,none⟩ (.bool sk))=w3 at HT3 ⊢
    clear HT2 d4 e0 e1 e2 e3 da df q0 q1 q2 q3 b4
    have b5:=HT3.out.b5
    have hcv:=convI_any w3.drew u r (HRK.out.below (HT3.out.bl.drew)) HRB.out.1 HRB.out.2
    go_wp2
    go_region_held3 (fun w'=>w'.cell? ⟨tT,5,none⟩=some (.slice (some ⟨tB,0,none⟩) n n)) (go_keep) ((go_at_call 96;refine hcv.mono ?_;rintro e w4 ⟨g4,rfl,hg4,hl4,hn4,hb4⟩;have HT4:Hid (TI w w4 f b st cls n tT tA tB lo acc next gs (k+1) k):=(HT3.out.below ((Below.refl _ _).drew)).below hb4;have HT5:Hid (TI w (w4.setCell ⟨tB,k,none⟩ (.slice (some ⟨g4,0,none⟩) r.length r.length)) f b st cls n tT tA tB lo acc next (gs++[g4]) (k+1) (k+1)):=(HT3.out.below ((Below.refl _ _).drew)).row hlt HRE.out hb4 hg4 hl4 hn4;have d5:=HT4.out.b5;have da:=HT4.out.nb.c k hlt;have df:=HT4.out.nb.fz k;clear hb4 hn4 hl4 hg4))
    rename_i hheld
    clear hheld
    go_wp2
    go_roundw
    case rel=>exact⟨k+1,gs++[g4],by go_num,by omega,HT5.out⟩
    case measure=>simp[intOf]<;>omega
   ·have hkI:¬(k:Int)<n:=by omega
    have hkn:k=n:=by omega
    obtain⟨o1,o2,o3,o4,o5,o6,o7,o8,o9,o10⟩:=hti.o
    have b0:=hti.b0
    have b1:=hti.b1
    have b2:=hti.b2
    have b3:=hti.b3
    have b4:=hti.b4
    have b5:=hti.b5
    obtain⟨r0,r1,r2,r3,r4,r5⟩:=box6 hti.rb
    have rf:=boxfz hti.rb
    have m1:tT≠w.heap.size:=by omega
    have m2:w.heap.size≠tT:=by omega
    have HTN:Hid (TabN (w.heap.size+1) wr ⟨f,b,st,cls,acc,next⟩ tA tB gs):=by
     rw[hkn] at hti
     exact hti.done HN.out.1 HN.out.2.1
    have HBL:Hid (Below w.heap.size w wr):=hti.bl
    clear hti
    go_wp2
    refine bodyPost_ret (v:=tv ⟨f,b,st,cls,acc,next⟩ (.slice (some ⟨tA,0,none⟩) n n) (.slice (some ⟨tB,0,none⟩) n n)) (by simp[results,Tryz.results50,go_sem,r0,r1,r2,r3,r4,r5]) rfl ?_
    refine⟨tA,tB,?_,⟨gs,?_⟩,?_⟩
    ·rw[←HN.out.1,←HN.out.2.1]
    ·exact((((((HTN.out.set (by omega) _ _).set (by omega) _ _).set (by omega) _ _).set (by omega) _ _).set (by omega) _ _).set (by omega) _ _).weak (by omega)
    ·exact(by(repeat first|(with_reducible refine Below.setCell ?_ (by first|exact Nat.le_refl _|(simp;done)|(simp;omega)) _)|(with_reducible refine Below.alloc ?_ (by first|omega|(simp;done)|(simp;omega)) _)|(with_reducible refine Below.drew ?_));exact HBL.out)
open Go.RowKit Go.Shelf
attribute [local go_sem] Oper.semAt_some
theorem ends_stops (n:Nat) (hn:2≤n) (H g:Nat) (t:Tb) (c:Nat) (hok:TbOk t c) (tx:List UInt8) (htx:tx.length≤maxLen) (w0:World)
  (hau:∀ W',Below H w0 W'→AuIn W' g t) (hsz:w0.heap.size=H+3)
  (hB1:w0.cell? ⟨H+1,0,none⟩=some (.pointer (some ⟨g,0,none⟩))) (hB2:w0.cell? ⟨H+2,0,none⟩=some (.string (ba tx))) :
  SeqStopsK Fence.wide n Tryz.prog 171 #[.pointer (some ⟨H+1,0,none⟩),.pointer (some ⟨H+2,0,none⟩)] (fun x:Nat=>#[Value.int .i64 (x:Int)]) (Kq H) (fun xs=>xs=endsL t tx) (fun pre=>pre <+: endsL t tx) (tx.length+1) w0:=fun l J Jx W hW hJ hJx hY h0=>by
 have hs:=hW.size
 exact iter_in n hn l H g t c hok tx htx J Jx W hJ hJx hY (fun W' hb=>hau W' ((hW.mono (by omega)).trans hb)) (by omega) ((cell_of_block (hW.block _ (by omega)) 0).trans hB1) ((cell_of_block (hW.block _ (by omega)) 0).trans hB2) h0
def lastI (l:List Nat):Int:=match l.getLast? with|some x=>x|none=>-1
theorem lastI_snoc (l:List Nat) (x:Nat):lastI (l++[x])=x:=by simp[lastI]
def firstI (l:List Nat):Int:=match l with|x::_=>x|[]=>-1
theorem kq_b {H:Nat}{w:World} (hw:H+3≤w.heap.size) (W:World) (l:Nat) (o o':Obj) (h1:w.heap.size≤l) (h2:W.heap[l]?=some o) (h3:o.isCells=false) (h4:o.isWalk=false):Kq H W (W.putObj l o'):=by
 have hb:Below (H+3) W (W.putObj l o'):=belowK_b hw W l o o' h1 h2 h3 h4
 exact⟨hb.mono (by omega),hb.block _ (by omega),hb.block _ (by omega)⟩
theorem kq_set (H:Nat) (W:World) (v:Value):Kq H W (W.setCell ⟨H,0,none⟩ v):=
 ⟨(Below.refl H W).setCell (p:=⟨H,0,none⟩) (Nat.le_refl _) _,Below.heap_setCell _ _ _ _ (by simp),Below.heap_setCell _ _ _ _ (by simp)⟩
theorem last_in (w:World) (g:Nat) (t:Tb) (c:Nat) (h:AuIn w g t) (hok:TbOk t c) (tx:List UInt8) (htx:tx.length≤maxLen) :
  CallsIn Fence.wide 8 Tryz.prog 97 #[.pointer (some ⟨g,0,none⟩),.string (ba tx)] w fun e w'=>e=.returned (.int .i64 (lastI (endsL t tx)))∧Below w.heap.size w w':=by
 have HH:Hid (AuIn w g t):=h
 clear h
 refine callsIn_of_wp_marks Tryz.func97 rfl trivial ?_ rfl
 simp only[Tryz.ntmps97,List.size_toArray,List.length_cons,List.length_nil,Nat.reduceAdd,Nat.reduceSub,Array.replicate_succ,Array.replicate_zero,List.push_toArray,List.append_toArray,List.nil_append,List.cons_append]
 gi_wp2_with (refine⟨trivial,?_⟩;gi_at_call 120;refine(ends_in _ g (ba tx) _).mono ?_;rintro e w' ⟨rfl,hw'⟩;subst hw')
 obtain⟨w0,hw0⟩:∃ w0,w0=((w.alloc (.cells #[.int .i64 (-1)] 3)).alloc (.cells #[.pointer (some ⟨g,0,none⟩)] 92)).alloc (.cells #[.string (ba tx)] 9):=⟨_,rfl⟩
 have hB0:Below w.heap.size w w0:=by rw[hw0];exact(((Below.refl _ w).alloc (Nat.le_refl _) _).alloc (by simp) _).alloc (by simp;omega) _
 have hz0:w0.heap.size=w.heap.size+3:=by rw[hw0];simp
 have j0:w0.heap[w.heap.size]?=some (.cells #[.int .i64 (-1)] 3):=by rw[hw0];exact al0 w _ _ _
 have j1:w0.heap[w.heap.size+1]?=some (.cells #[.pointer (some ⟨g,0,none⟩)] 92):=by rw[hw0];exact al1 w _ _ _
 have j2:w0.heap[w.heap.size+2]?=some (.cells #[.string (ba tx)] 9):=by rw[hw0];exact al2 w _ _ _
 have k0:w0.cell? ⟨w.heap.size,0,none⟩=some (.int .i64 (-1)):=by simp[World.cell?,j0]
 have kf:w0.frozen? ⟨w.heap.size,0,none⟩=false:=by simp[World.frozen?,j0]
 have k1:w0.cell? ⟨w.heap.size+1,0,none⟩=some (.pointer (some ⟨g,0,none⟩)):=by simp[World.cell?,j1]
 have k2:w0.cell? ⟨w.heap.size+2,0,none⟩=some (.string (ba tx)):=by simp[World.cell?,j2]
 rw[←hw0]
 refine wpIn_rangeFunc_ownF (α:=Nat) rfl (by omega) (gf:=171) (lb:=#[.pointer (some ⟨w.heap.size+1,0,none⟩),.pointer (some ⟨w.heap.size+2,0,none⟩)]) rfl trivial (enters_of Tryz.func171 (by kernel_rfl) rfl)
  (ends_stops (8-1) (by omega) w.heap.size g t c hok tx htx w0 (fun W' hb=>HH.out.below (hB0.trans hb)) hz0 k1 k2) (fun h k=>h.trans k) (kq_b (by omega)) (Below.refl _ _) (fun _=>rfl)
  (fun pre W=>(W.cell? ⟨w.heap.size,0,none⟩=some (.int .i64 (lastI pre))∧W.frozen? ⟨w.heap.size,0,none⟩=false)∧Below w.heap.size w W)
  (fun _ _ _=>False)
  (OwnFrom.and (Own.from (fun s A B row hs hg hr=>⟨cell_kept hs.1 hg hr,(frozen_kept hs.1 hg hr).trans hs.2⟩) _) (ownFrom_below (Nat.le_refl _) (by omega)))
  (fun _ _ _ _ _ hs _ _=>hs)
  ⟨⟨k0,kf⟩,hB0⟩
  (fun x=>{tmps:=#[.pointer (some ⟨g,0,none⟩),.string (ba tx),undef,undef,.int .i64 0,.pointer (some ⟨w.heap.size,0,none⟩),.int .i64 (x:Int),.pointer (some ⟨g,0,none⟩),.string (ba tx),.func (.func 171) #[] #[.pointer (some ⟨w.heap.size+1,0,none⟩),.pointer (some ⟨w.heap.size+2,0,none⟩)],.int .i64 (x:Int),undef,undef],defers:=[]}) ?assign ?body ?done ?stop
 case assign=>
  intro l x W K hK
  gi_wp2
  exact hK
 case body=>
  rintro l pre x W ⟨⟨hc,hf⟩,hB⟩ _
  gi_wp2
  exact⟨KeepsOthers.setCell _ _ _,kq_set _ _ _,⟨by rw[lastI_snoc];exact World.cell?_setCell_same' _ _ _ (by rw[hc];rfl),by rw[World.frozen?_setCell];exact hf⟩,hB.setCell (p:=⟨w.heap.size,0,none⟩) (Nat.le_refl _) _⟩
 case done=>
  rintro D ys W hD rfl ⟨⟨hc,_⟩,hB⟩ hK
  gi_wp2
  refine⟨by simp,.inl ⟨_,_,rfl,run_takeDeferred hK,?_⟩⟩
  exact⟨_,results_tmp rfl _ _ _,rfl,hB.trans (belowK_b (w:=w) (Nat.le_refl _) W D _ _ (by omega) hK rfl rfl)⟩
 case stop=>
  rintro D c pre W _ _ h _
  exact h.elim
theorem last_any (w:World) (g:Nat) (t:Tb) (c:Nat) (h:AuIn w g t) (hok:TbOk t c) (tx:List UInt8) (htx:tx.length≤maxLen) :
  Calls Tryz.prog 97 #[.pointer (some ⟨g,0,none⟩),.string (ba tx)] w fun e w'=>e=.returned (.int .i64 (lastI (endsL t tx)))∧Below w.heap.size w w':=callsIn_wide.1 (last_in w g t c h hok tx htx)
theorem first_in (w:World) (g:Nat) (t:Tb) (c:Nat) (h:AuIn w g t) (hok:TbOk t c) (tx:List UInt8) (htx:tx.length≤maxLen) :
  CallsIn Fence.wide 8 Tryz.prog 70 #[.pointer (some ⟨g,0,none⟩),.string (ba tx)] w fun e w'=>e=.returned (.int .i64 (firstI (endsL t tx)))∧Below w.heap.size w w':=by
 have HH:Hid (AuIn w g t):=h
 clear h
 refine callsIn_of_wp_marks Tryz.func70 rfl trivial ?_ rfl
 simp only[Tryz.ntmps70,List.size_toArray,List.length_cons,List.length_nil,Nat.reduceAdd,Nat.reduceSub,Array.replicate_succ,Array.replicate_zero,List.push_toArray,List.append_toArray,List.nil_append,List.cons_append]
 gi_wp2_with (refine⟨trivial,?_⟩;gi_at_call 120;refine(ends_in _ g (ba tx) _).mono ?_;rintro e w' ⟨rfl,hw'⟩;subst hw')
 obtain⟨w0,hw0⟩:∃ w0,w0=((w.alloc (.cells #[.int .i64 0] 3)).alloc (.cells #[.pointer (some ⟨g,0,none⟩)] 92)).alloc (.cells #[.string (ba tx)] 9):=⟨_,rfl⟩
 have hB0:Below w.heap.size w w0:=by rw[hw0];exact(((Below.refl _ w).alloc (Nat.le_refl _) _).alloc (by simp) _).alloc (by simp;omega) _
 have hz0:w0.heap.size=w.heap.size+3:=by rw[hw0];simp
 have j0:w0.heap[w.heap.size]?=some (.cells #[.int .i64 0] 3):=by rw[hw0];exact al0 w _ _ _
 have j1:w0.heap[w.heap.size+1]?=some (.cells #[.pointer (some ⟨g,0,none⟩)] 92):=by rw[hw0];exact al1 w _ _ _
 have j2:w0.heap[w.heap.size+2]?=some (.cells #[.string (ba tx)] 9):=by rw[hw0];exact al2 w _ _ _
 have k0:w0.cell? ⟨w.heap.size,0,none⟩=some (.int .i64 0):=by simp[World.cell?,j0]
 have kf:w0.frozen? ⟨w.heap.size,0,none⟩=false:=by simp[World.frozen?,j0]
 have k1:w0.cell? ⟨w.heap.size+1,0,none⟩=some (.pointer (some ⟨g,0,none⟩)):=by simp[World.cell?,j1]
 have k2:w0.cell? ⟨w.heap.size+2,0,none⟩=some (.string (ba tx)):=by simp[World.cell?,j2]
 rw[←hw0]
 refine wpIn_rangeFunc_ownF (α:=Nat) rfl (by omega) (gf:=171) (lb:=#[.pointer (some ⟨w.heap.size+1,0,none⟩),.pointer (some ⟨w.heap.size+2,0,none⟩)]) rfl trivial (enters_of Tryz.func171 (by kernel_rfl) rfl)
  (ends_stops (8-1) (by omega) w.heap.size g t c hok tx htx w0 (fun W' hb=>HH.out.below (hB0.trans hb)) hz0 k1 k2) (fun h k=>h.trans k) (kq_b (by omega)) (Below.refl _ _) (fun _=>rfl)
  (fun pre W=>(pre=[]∧W.cell? ⟨w.heap.size,0,none⟩=some (.int .i64 0)∧W.frozen? ⟨w.heap.size,0,none⟩=false)∧Below w.heap.size w W)
  (fun c pre W=>(c=.ret∧(∃ x:Nat,pre=[x]∧W.cell? ⟨w.heap.size,0,none⟩=some (.int .i64 (x:Int))))∧Below w.heap.size w W)
  (OwnFrom.and (Own.from (fun s A B row hs hg hr=>⟨hs.1,cell_kept hs.2.1 hg hr,(frozen_kept hs.2.1 hg hr).trans hs.2.2⟩) _) (ownFrom_below (Nat.le_refl _) (by omega)))
  (fun c=>OwnFrom.and (Own.from (fun s A B row hs hg hr=>⟨hs.1,let ⟨x,h1,h2⟩:=hs.2;⟨x,h1,cell_kept h2 hg hr⟩⟩) _) (ownFrom_below (Nat.le_refl _) (by omega)))
  ⟨⟨rfl,k0,kf⟩,hB0⟩
  (fun x=>{tmps:=#[.pointer (some ⟨g,0,none⟩),.string (ba tx),undef,undef,.pointer (some ⟨w.heap.size,0,none⟩),.int .i64 (x:Int),.pointer (some ⟨g,0,none⟩),.string (ba tx),.func (.func 171) #[] #[.pointer (some ⟨w.heap.size+1,0,none⟩),.pointer (some ⟨w.heap.size+2,0,none⟩)],.int .i64 (x:Int),undef],defers:=[]}) ?assign ?body ?done ?stop
 case assign=>
  intro l x W K hK
  gi_wp2
  exact hK
 case body=>
  rintro l pre x W ⟨⟨hp,hc,hf⟩,hB⟩ _
  subst hp
  gi_wp2
  exact⟨KeepsOthers.setCell _ _ _,⟨rfl,x,rfl,World.cell?_setCell_same' _ _ _ (by rw[hc];rfl)⟩,hB.setCell (p:=⟨w.heap.size,0,none⟩) (Nat.le_refl _) _⟩
 case done=>
  rintro D ys W hD hys ⟨⟨hp,hc,hf⟩,hB⟩ hK
  have hys2:endsL t tx=[]:=by rw[←hys,hp]
  gi_wp2
  have hK':=(KeepsOthers.setCell W ⟨w.heap.size,0,none⟩ (.int .i64 (-1))).same D _ hK rfl
  refine⟨by simp,.inl ⟨_,_,rfl,run_takeDeferred hK',?_⟩⟩
  have hc5:=cell_kept (World.cell?_setCell_same' W ⟨w.heap.size,0,none⟩ (.int .i64 (-1)) (by rw[hc];rfl)) (grownBy_putObj' _ D (.deferred none)) (fun r e=>by cases e;exact⟨_,hK',rfl⟩)
  refine⟨.int .i64 (-1),?_,by rw[hys2];rfl,(hB.setCell (p:=⟨w.heap.size,0,none⟩) (Nat.le_refl _) _).trans (belowK_b (w:=w) (Nat.le_refl _) _ D _ _ (by omega) hK' rfl rfl)⟩
  simp[results,Tryz.f70,go_sem,hc5]
 case stop=>
  rintro D c pre W hD hpre ⟨⟨rfl,x,rfl,hcr⟩,hB⟩ hK
  gi_wp2
  refine⟨by simp,.inl ⟨_,_,rfl,run_takeDeferred hK,?_⟩⟩
  have hc5:=cell_kept hcr (grownBy_putObj' _ D (.deferred none)) (fun r e=>by cases e;exact⟨_,hK,rfl⟩)
  refine⟨.int .i64 (x:Int),?_,?_,hB.trans (belowK_b (w:=w) (Nat.le_refl _) W D _ _ (by omega) hK rfl rfl)⟩
  ·simp[results,Tryz.f70,go_sem,hc5]
  ·obtain⟨r,hr⟩:=hpre
   rw[←hr];rfl
theorem first_any (w:World) (g:Nat) (t:Tb) (c:Nat) (h:AuIn w g t) (hok:TbOk t c) (tx:List UInt8) (htx:tx.length≤maxLen) :
  Calls Tryz.prog 70 #[.pointer (some ⟨g,0,none⟩),.string (ba tx)] w fun e w'=>e=.returned (.int .i64 (firstI (endsL t tx)))∧Below w.heap.size w w':=callsIn_wide.1 (first_in w g t c h hok tx htx)
end Go.Proofs.YtbjabpodkaokjaaGreatDoor

import Derived.Test.YtbjabpodkaokjaaGreatDoorJ09
import Derived.Test.YtbjabpodkaokjaaGreatDoorJ10
import Derived.KernelRfl
set_option linter.unusedVariables false
set_option linter.unusedSimpArgs false
set_option maxHeartbeats 4000000
set_option maxRecDepth 100000
namespace Go.Proofs.YtbjabpodkaokjaaGreatDoor
open Go.RowKit
def Mch(w:World)(m:Nat)(t:Tb)(c:Nat):Prop:=∃ g,w.cell?⟨m,0,none⟩=some(.pointer(some⟨g,0,none⟩))∧AuIn w g t∧TbOk t c
theorem Mch.below {w w':World} {m:Nat} {t:Tb} {c:Nat} (h:Mch w m t c)(hb:Below w.heap.size w w'):Mch w' m t c:=by
 obtain⟨g,h1,h2,h3⟩:=h
 exact⟨g,cell_below hb h1,h2.below hb,h3⟩
theorem Mch.new {w:World} {g:Nat} {t:Tb} {c:Nat} (h:AuIn w g t)(hok:TbOk t c):Mch(w.alloc(.cells #[.pointer(some⟨g,0,none⟩)] 97))w.heap.size t c:=
 ⟨g,by simp [go_sem],h.below((Below.refl _ _).alloc(Nat.le_refl _)_),hok⟩
theorem tbOk_is {t:Tb} {c:Nat} (h:TbOk t c):isTb t=true:=by
 unfold isTb
 simp only [Bool.and_eq_true,decide_eq_true_eq]
 refine⟨h.a1,h.a2,h.n,?_,?_⟩
 ·simp [isSt];exact⟨h.s1,h.s2⟩
 ·rw [h.cc]
  simp only [List.all_eq_true]
  intro r hr
  simp only [rowOk,Bool.and_eq_true,beq_iff_eq,List.all_eq_true]
  exact⟨(h.r r hr).1,fun z hz=>by simpa [isSt] using(h.r r hr).2 z hz⟩
theorem TbOk.wok {t:Tb} {c:Nat} (h:TbOk t c):Wok t:=by
 have h2:=h.c256
 have f:=h.fits
 have:=h.n
 have:=h.a1
 have:=h.a2
 exact⟨h.a2,by omega,by omega,f.st,fun r hr=>⟨by have:=(h.r r hr).1;omega,(f.r r hr).2⟩,by omega⟩
theorem longest_any(w:World)(m:Nat)(t:Tb)(c:Nat)(h:Mch w m t c)(tx:List UInt8)(htx:tx.length≤maxLen) :
  Calls Tryz.prog 56 #[.pointer(some⟨m,0,none⟩),.string(ba tx)] w fun e w'=>e=.returned(.tuple #[.int .i64(lastI(endsL t tx)),.int .i64 0])∧Below w.heap.size w w':=by
 obtain⟨g,h1,h2,h3⟩:=h
 have hl:=last_any w g t c h2 h3 tx htx
 clear h2 h3 htx
 go_enter Tryz.func56,Tryz.ntmps56
 go_wp2_with(go_at_call 97;refine hl.mono ?_;rintro e w1⟨rfl,hb⟩)
 go_ret2
 exact⟨rfl,hb⟩
theorem shortest_any(w:World)(m:Nat)(t:Tb)(c:Nat)(h:Mch w m t c)(tx:List UInt8)(htx:tx.length≤maxLen) :
  Calls Tryz.prog 55 #[.pointer(some⟨m,0,none⟩),.string(ba tx)] w fun e w'=>e=.returned(.tuple #[.int .i64(firstI(endsL t tx)),.int .i64 0])∧Below w.heap.size w w':=by
 obtain⟨g,h1,h2,h3⟩:=h
 have hl:=first_any w g t c h2 h3 tx htx
 clear h2 h3 htx
 go_enter Tryz.func55,Tryz.ntmps55
 go_wp2_with(go_at_call 70;refine hl.mono ?_;rintro e w1⟨rfl,hb⟩)
 go_ret2
 exact⟨rfl,hb⟩
theorem firstI_ge(l:List Nat):decide(0≤firstI l)=!l.isEmpty:=by
 cases l<;>simp [firstI]
theorem ismatch_any(w:World)(m:Nat)(t:Tb)(c:Nat)(h:Mch w m t c)(tx:List UInt8)(htx:tx.length≤maxLen) :
  Calls Tryz.prog 39 #[.pointer(some⟨m,0,none⟩),.string(ba tx)] w fun e w'=>e=.returned(.tuple #[.bool(!(endsL t tx).isEmpty),.int .i64 0])∧Below w.heap.size w w':=by
 obtain⟨g,h1,h2,h3⟩:=h
 have hl:=first_any w g t c h2 h3 tx htx
 have hq:=firstI_ge(endsL t tx)
 generalize firstI(endsL t tx)=z at hl hq
 have HQ:Hid(decide(0≤z)=!(endsL t tx).isEmpty):=hq
 clear h2 h3 htx hq
 go_enter Tryz.func39,Tryz.ntmps39
 go_wp2_with(go_at_call 70;refine hl.mono ?_;rintro e w1⟨rfl,hb⟩)
 go_ret2
 rw [←HQ.out]
 exact⟨rfl,hb⟩
theorem mtable_any(w:World)(m:Nat)(t:Tb)(c:Nat)(h:Mch w m t c) :
  Calls Tryz.prog 16 #[.pointer(some⟨m,0,none⟩)] w fun e w'=>∃ tA tB gs,e=.returned(.tuple #[tv t(.slice(some⟨tA,0,none⟩)t.acc.length t.acc.length)(.slice(some⟨tB,0,none⟩)t.next.length t.next.length),.int .i64 0])∧TabN w.heap.size w' t tA tB gs∧Below w.heap.size w w':=by
 obtain⟨g,h1,h2,h3⟩:=h
 have hB:Below w.heap.size w(w.alloc(.cells tc0 33)):=(Below.refl _ _).alloc(Nat.le_refl _)_
 have hl:=table_any(w.alloc(.cells tc0 33))g t c(h2.below hB)h3
 have h1':=cell_below hB h1
 have HB:Hid(Below w.heap.size w(w.alloc(.cells tc0 33))):=hB
 rw [World.size_alloc] at hl
 clear h2 h3 hB
 go_enter Tryz.func16,Tryz.ntmps16
 go_wp2_with(go_at_call 50;refine hl.mono ?_;rintro e w1⟨tA,tB,gs,rfl,hn,hb⟩;obtain⟨r0,r1,r2,r3,r4,r5⟩:=box6((hb.block w.heap.size(by omega)).trans(heap_alloc_new w _));have rf:=boxfz((hb.block w.heap.size(by omega)).trans(heap_alloc_new w(.cells tc0 33)));have HN:Hid(TabN(w.heap.size+1)w1 t tA tB gs):=hn;have HB1:Hid(Below w.heap.size w w1):=HB.out.trans(hb.mono(by omega));clear hb hn)
 refine bodyPost_ret(v:=.tuple #[tv t(.slice(some⟨tA,0,none⟩)t.acc.length t.acc.length)(.slice(some⟨tB,0,none⟩)t.next.length t.next.length),.int .i64 0])(by simp [results,Tryz.results16,go_sem,r0,r1,r2,r3,r4,r5])rfl ?_
 refine⟨tA,tB,gs,rfl,?_,?_⟩
 ·exact((((((HN.out.set(by omega)_ _).set(by omega)_ _).set(by omega)_ _).set(by omega)_ _).set(by omega)_ _).set(by omega)_ _).weak(by omega)
 ·exact(by(repeat first|(with_reducible refine Below.setCell ?_(by first|exact Nat.le_refl _|(simp;done)|(simp;omega))_)|(with_reducible refine Below.alloc ?_(by first|omega|(simp;done)|(simp;omega))_)|(with_reducible refine Below.drew ?_));exact HB1.out)
theorem encode_any(w:World)(m:Nat)(t:Tb)(c:Nat)(h:Mch w m t c)(kind:Nat)(hk:kind≤1)(big:Bool) :
  Calls Tryz.prog 34 #[.pointer(some⟨m,0,none⟩),.int .i64 kind,.bool big] w fun e w'=>e=.returned(.tuple #[.string(ba(enc t kind big)),.int .i64 0])∧Below w.heap.size w w':=by
 obtain⟨g,h1,h2,h3⟩:=h
 have hl:=table_any w g t c h2 h3
 have HW:Hid(Wok t):=h3.wok
 clear h2 h3
 rcases(show kind=0∨kind=1 by omega)with rfl|rfl
 ·go_enter Tryz.func34,Tryz.ntmps34
  go_wp2_with(first|(go_at_call 59;refine(write_any w1 t _ _ 0 big(by omega)HN.out.tab HW.out).mono ?_;rintro e w2⟨rfl,hb2⟩)|(go_at_call 50;refine hl.mono ?_;rintro e w1⟨tA,tB,gs,rfl,hn,hb⟩;have HN:Hid(TabN w.heap.size w1 t tA tB gs):=hn;clear hn))
  go_ret2
  exact⟨rfl,hb.trans(hb2.mono hb.size)⟩
 ·go_enter Tryz.func34,Tryz.ntmps34
  go_wp2_with(first|(go_at_call 59;refine(write_any w1 t _ _ 1 big(by omega)HN.out.tab HW.out).mono ?_;rintro e w2⟨rfl,hb2⟩)|(go_at_call 50;refine hl.mono ?_;rintro e w1⟨tA,tB,gs,rfl,hn,hb⟩;have HN:Hid(TabN w.heap.size w1 t tA tB gs):=hn;clear hn))
  go_ret2
  exact⟨rfl,hb.trans(hb2.mono hb.size)⟩
theorem rdT_small {b:List UInt8} {t:Tb} {k:Nat} {g:Bool} (h:rdT b=some(t,k,g)):Small t:=by
 obtain⟨kd,l6,en,l7,bg,l8,big,s,l10,c,l12,st,l14,hh⟩:=hdr_ex b
 rw [hh.rdT] at h
 split at h
 ·simp at h
 ·rename_i hc
  simp only [Option.some.injEq,Prod.mk.injEq] at h
  obtain⟨rfl,_,_⟩:=h
  refine⟨?_,?_,fun r hr=>?_,?_⟩
  ·simp only [rdA_len];unfold maxLen;omega
  ·simp only [rdRs_len];unfold maxLen;omega
  ·have:=(rdRs_ok _ _ _ _ _ r hr).1;unfold maxLen;omega
  ·simp only [List.length_take];unfold maxLen;omega
theorem read_bad(w:World)(b:List UInt8)(hb:b.length≤maxLen)(hn:∀ t k g,rdT b=some(t,k,g)→enc t k g≠b) :
  Calls Tryz.prog 60 #[.string(ba b)] w fun e w'=>e=.returned(.tuple #[tv0,.bool false])∧Below w.heap.size w w':=by
 cases h:rdT b with
 |none=>exact read_none w b hb h
 |some x=>
  obtain⟨t,k,g⟩:=x
  refine(read_t w b hb t k g h).mono ?_
  rintro e w'⟨⟨he,_⟩|⟨_,rfl⟩,hbl⟩
  ·exact absurd he(hn t k g h)
  ·exact⟨rfl,hbl⟩
theorem read_good(w:World)(b:List UInt8)(hb:b.length≤maxLen)(t:Tb)(k:Nat)(g:Bool)(h:rdT b=some(t,k,g))(he:enc t k g=b) :
  Calls Tryz.prog 60 #[.string(ba b)] w fun e w'=>(∃ va vn,e=.returned(.tuple #[tv t va vn,.bool true])∧TabIn w' t va vn)∧Below w.heap.size w w':=by
 refine(read_t w b hb t k g h).mono ?_
 rintro e w'⟨⟨_,h⟩|⟨hne,_⟩,hbl⟩
 ·exact⟨h,hbl⟩
 ·exact absurd he hne
theorem load_bad(w:World)(b:List UInt8)(hb:b.length≤maxLen)(hn:∀ t k g,rdT b=some(t,k,g)→enc t k g≠b) :
  Calls Tryz.prog 35 #[.string(ba b)] w fun e w'=>e=.returned(.tuple #[.pointer none,.int .i64 6])∧Below w.heap.size w w':=by
 have hr:=read_bad w b hb hn
 clear hn hb
 go_enter Tryz.func35,Tryz.ntmps35
 go_wp2_with(go_at_call 60;refine hr.mono ?_;rintro e w1⟨rfl,hb⟩)
 go_ret2
 exact⟨rfl,hb.alloc hb.size _⟩
theorem TabIn.shapes {w:World} {t:Tb} {va vn:Value} (h:TabIn w t va vn):∃ a c a2 n2 c2,va=.slice a t.acc.length c∧vn=.slice a2 n2 c2:=by
 obtain⟨a,c,rfl⟩:=h.acc.form
 obtain⟨us,_,hu,_⟩:=h.next
 obtain⟨a2,c2,rfl⟩:=hu.form
 exact⟨_,_,_,_,_,rfl,rfl⟩
theorem load_no(w:World)(b:List UInt8)(hb:b.length≤maxLen)(t:Tb)(k:Nat)(g:Bool)(h:rdT b=some(t,k,g))(he:enc t k g=b)(hf:isTb t=false) :
  Calls Tryz.prog 35 #[.string(ba b)] w fun e w'=>e=.returned(.tuple #[.pointer none,.int .i64 6])∧Below w.heap.size w w':=by
 have hr:=read_good w b hb t k g h he
 have hs:=rdT_small h
 have HNW:Hid(∀ w va vn,TabIn w t va vn→Calls Tryz.prog 42 #[tv t va vn] w fun e w'=>e=.returned(.tuple #[.pointer none,.bool false])∧Below w.heap.size w w'):=fun w va vn h=>new_no w t va vn h hs hf
 clear h he hb hf hs
 go_enter Tryz.func35,Tryz.ntmps35
 go_wp2_with(first|(go_at_call 42;refine(HNW.out _ _ _ HT.out).mono ?_;rintro e w2⟨rfl,hb2⟩)|(go_at_call 60;refine hr.mono ?_;rintro e w1⟨⟨va,vn,rfl,ht⟩,hb1⟩;obtain⟨a,c,a2,n2,c2,e1,e2⟩:=ht.shapes;subst e1;subst e2;have HT:Hid(TabIn(w1.alloc(.cells #[.bool t.front,.bool t.back,.int .i64 t.start,.string(ba t.cls),.slice a t.acc.length c,.slice a2 n2 c2] 33))t(.slice a t.acc.length c)(.slice a2 n2 c2)):=ht.below((Below.refl _ _).alloc(Nat.le_refl _)_);clear ht))
 go_ret2
 exact⟨rfl,(hb1.alloc hb1.size _).trans(hb2.mono(by have:=hb1.size;simp;omega))⟩
theorem load_yes(w:World)(b:List UInt8)(hb:b.length≤maxLen)(t:Tb)(k:Nat)(g:Bool)(h:rdT b=some(t,k,g))(he:enc t k g=b)(hf:isTb t=true) :
  Calls Tryz.prog 35 #[.string(ba b)] w fun e w'=>∃ m c,e=.returned(.tuple #[.pointer(some⟨m,0,none⟩),.int .i64 0])∧Mch w' m t c∧w.heap.size≤m∧Below w.heap.size w w':=by
 obtain⟨c0,hok⟩:=tbOk_of hf
 have HOK:Hid(TbOk t c0):=hok
 have hr:=read_good w b hb t k g h he
 have hs:=rdT_small h
 have HNW:Hid(∀ w va vn,TabIn w t va vn→Calls Tryz.prog 42 #[tv t va vn] w fun e w'=>∃ g,e=.returned(.tuple #[.pointer(some⟨g,0,none⟩),.bool true])∧w.heap.size≤g∧AuIn w' g t∧Below w.heap.size w w'):=fun w va vn h=>new_yes w t va vn h hs hf
 clear h he hb hf hs hok
 go_enter Tryz.func35,Tryz.ntmps35
 go_wp2_with(first|(go_at_call 42;refine(HNW.out _ _ _ HT.out).mono ?_;rintro e w2⟨g2,rfl,hg2,hau,hb2⟩;have HA:Hid(AuIn w2 g2 t):=hau;have HB2:Hid(Below w.heap.size w w2):=(hb1.alloc hb1.size _).trans(hb2.mono(by have:=hb1.size;simp;omega));clear hau hb2 hg2)|(go_at_call 60;refine hr.mono ?_;rintro e w1⟨⟨va,vn,rfl,ht⟩,hb1⟩;obtain⟨a,c,a2,n2,c2,e1,e2⟩:=ht.shapes;subst e1;subst e2;have HT:Hid(TabIn(w1.alloc(.cells #[.bool t.front,.bool t.back,.int .i64 t.start,.string(ba t.cls),.slice a t.acc.length c,.slice a2 n2 c2] 33))t(.slice a t.acc.length c)(.slice a2 n2 c2)):=ht.below((Below.refl _ _).alloc(Nat.le_refl _)_);clear ht))
 go_ret2
 exact⟨_,c0,rfl,Mch.new HA.out HOK.out,HB2.out.size,HB2.out.alloc HB2.out.size _⟩
theorem load_none(w:World)(b:List UInt8)(hb:b.length≤maxLen)(h:loadM isTb b=none) :
  Calls Tryz.prog 35 #[.string(ba b)] w fun e w'=>e=.returned(.tuple #[.pointer none,.int .i64 6])∧Below w.heap.size w w':=by
 cases hr:rdT b with
 |none=>exact load_bad w b hb(fun t k g e=>by rw [hr] at e;simp at e)
 |some x=>
  obtain⟨t,k,g⟩:=x
  by_cases he:enc t k g=b
  ·refine load_no w b hb t k g hr he ?_
   unfold loadM at h
   rw [hr] at h
   simp only at h
   rw [if_pos he] at h
   cases hi:isTb t with
   |false=>rfl
   |true=>rw [hi] at h;simp at h
  ·exact load_bad w b hb(fun t' k' g' e=>by rw [hr] at e;simp at e;obtain⟨rfl,rfl,rfl⟩:=e;exact he)
theorem load_some(w:World)(b:List UInt8)(hb:b.length≤maxLen)(t:Tb)(h:loadM isTb b=some t) :
  Calls Tryz.prog 35 #[.string(ba b)] w fun e w'=>∃ m c,e=.returned(.tuple #[.pointer(some⟨m,0,none⟩),.int .i64 0])∧Mch w' m t c∧w.heap.size≤m∧Below w.heap.size w w':=by
 unfold loadM at h
 split at h
 ·simp at h
 ·rename_i t' k g hr
  split at h
  ·rename_i he
   split at h
   ·rename_i hp
    simp only [Option.some.injEq] at h
    subst h
    exact load_yes w b hb _ k g hr he hp
   ·simp at h
  ·simp at h
theorem belowQ {B:Nat} {w w':World} (h:Below B w w')(n:Nat):Below B w(w'.drewN n):=⟨h.os,h.tape,h.output,h.size,h.block⟩
theorem sameTable_eq(w:World)(t:Tb)(va vn va' vn':Value)(h:TabIn w t va vn)(h':TabIn w t va' vn')(hs:Small t) :
  Calls Tryz.prog 26 #[tv t va vn,tv t va' vn'] w fun e w'=>e=.returned(.bool true)∧Below w.heap.size w w':=by
 obtain⟨f,b,st,cls,acc,next⟩:=t
 obtain⟨ha,⟨us,hul,hu,hr⟩⟩:=h
 obtain⟨ha',⟨us',hul',hu',hr'⟩⟩:=h'
 obtain⟨s1,s2,s3,s4⟩:=hs
 simp only at *
 obtain⟨a,ca,rfl⟩:=ha.form
 obtain⟨a',ca',rfl⟩:=ha'.form
 obtain⟨an,cn,rfl⟩:=hu.form
 obtain⟨an',cn',rfl⟩:=hu'.form
 rw [hul] at hu ⊢
 rw [hul'] at hu' ⊢
 obtain⟨n,hn⟩:∃ n,n=next.length:=⟨_,rfl⟩
 rw [←hn] at hu hu' hul hul' s2 ⊢
 obtain⟨m,hm⟩:∃ m,m=acc.length:=⟨_,rfl⟩
 rw [←hm] at s1 ⊢
 have HM:Hid(m=acc.length):=hm
 have HN:Hid(n=next.length∧us.length=n∧us'.length=n):=⟨hn,hul,hul'⟩
 obtain⟨w1,hw1⟩:∃ w1,w1=(w.alloc(.cells #[.bool f,.bool b,.int .i64 st,.string(ba cls),.slice a m ca,.slice an n cn] 33)).alloc(.cells #[.bool f,.bool b,.int .i64 st,.string(ba cls),.slice a' m ca',.slice an' n cn'] 33):=⟨_,rfl⟩
 have hB1:Below w.heap.size w w1:=by rw [hw1];exact((Below.refl _ _).alloc(Nat.le_refl _)_).alloc(by simp)_
 have hz1:w1.heap.size=w.heap.size+2:=by rw [hw1];simp
 have HX1:Hid(∀ w',Below w1.heap.size w1 w'→w'.heap[w.heap.size]?=some(.cells #[.bool f,.bool b,.int .i64 st,.string(ba cls),.slice a m ca,.slice an n cn] 33)):=fun w' hb=>by
  rw [hb.block _(by omega),hw1]
  exact(Below.heap_alloc(w.alloc _)_ _(by simp)).trans(heap_alloc_new w _)
 have HX2:Hid(∀ w',Below w1.heap.size w1 w'→w'.heap[w.heap.size+1]?=some(.cells #[.bool f,.bool b,.int .i64 st,.string(ba cls),.slice a' m ca',.slice an' n cn'] 33)):=fun w' hb=>by
  rw [hb.block _(by omega),hw1]
  have:=heap_alloc_new(w.alloc(.cells #[.bool f,.bool b,.int .i64 st,.string(ba cls),.slice a m ca,.slice an n cn] 33))(.cells #[.bool f,.bool b,.int .i64 st,.string(ba cls),.slice a' m ca',.slice an' n cn'] 33)
  rw [World.size_alloc] at this
  exact this
 have HW1:Hid(w1=(w.alloc(.cells #[.bool f,.bool b,.int .i64 st,.string(ba cls),.slice a m ca,.slice an n cn] 33)).alloc(.cells #[.bool f,.bool b,.int .i64 st,.string(ba cls),.slice a' m ca',.slice an' n cn'] 33)):=hw1
 have HST:Hid(∀ w',Below w1.heap.size w1 w'→Below w.heap.size w w'):=fun w' hb=>hB1.trans(hb.mono(by omega))
 have HU:Hid(RowE id w(.slice an n cn)us):=hu
 have HU':Hid(RowE id w(.slice an' n cn')us'):=hu'
 have HR:Hid(∀ j(h1:j<us.length)(h2:j<next.length),RowE eI w us[j] next[j]):=hr
 have HR':Hid(∀ j(h1:j<us'.length)(h2:j<next.length),RowE eI w us'[j] next[j]):=hr'
 have HS3:Hid(∀ r∈next,r.length≤maxLen):=s3
 unfold maxLen at s1 s2
 have HA:Hid(RowE eB w(.slice a m ca)acc):=by show RowE _ _ _ _;rw [hm];exact ha
 have HA':Hid(RowE eB w(.slice a' m ca')acc):=by show RowE _ _ _ _;rw [hm];exact ha'
 clear hw1 hB1 hu hu' hr hr' ha ha' hul hul' hn s3 hm
 have hbeq:(ba cls).toList=cls:=ByteArray.toList_mk cls
 go_enter Tryz.func26,Tryz.ntmps26
 go_wp2
 rw [←HW1.out]
 go_loopw [5](fun i wr=>∃ k:Nat,i=.int .i64 k∧k≤m∧Below w1.heap.size w1 wr)(fun i _=>m-(intOf i).toNat)
 case atStart=>exact⟨0,rfl,Nat.zero_le _,Below.refl _ _⟩
 case round=>
  obtain⟨k,rfl,hk,hbl⟩:=hrel
  have HBL:Hid(Below w1.heap.size w1 wr):=hbl
  obtain⟨t0,t1,t2,t3,p4,t5⟩:=box6(HX1.out wr hbl)
  obtain⟨t0',t1',t2',t3',q4,t5'⟩:=box6(HX2.out wr hbl)
  clear t0 t1 t2 t3 t5 t0' t1' t2' t3' t5'
  by_cases hlt:k<m
  ·have hltI:(k:Int)<m:=by omega
   have hlt1:k<acc.length:=by have:=HM.out;omega
   have hbw:=HST.out wr hbl
   obtain⟨b1,o1,x1,hform,hcell⟩:=(HA.out.below hbw).nonnil(by omega)
   injection hform with e1 e2 e3
   subst e1
   obtain⟨b2,o2,x2,hform',hcell'⟩:=(HA'.out.below hbw).nonnil(by omega)
   injection hform' with e1' e2' e3'
   subst e1'
   have d1:=hcell k hlt1
   have d2:=hcell' k hlt1
   obtain⟨z,hz⟩:∃ z,z=acc[k]:=⟨_,rfl⟩
   rw [←hz] at d1 d2
   clear hcell hcell' e2 e3 e2' e3' hz hbl hbw
   cases z
   all_goals
    go_wp2
    go_quiet(fail)
    go_wp2
    go_roundw
    case rel=>exact⟨k+1,by go_num,by omega,belowQ HBL.out nq⟩
    case measure=>simp [intOf]<;>omega
  ·have hkI:¬ (k:Int)<m:=by omega
   clear hbl
   go_wp2
   clear p4 q4 hkI hlt hk
   rename World=>wa
   have HBA:Hid(Below w1.heap.size w1 wa):=HBL.out
   clear HBL
   go_loopw [6,7](fun i _ wr=>∃ k:Nat,i=.int .i64 k∧k≤n∧Below w1.heap.size w1 wr)(fun i _ _=>n-(intOf i).toNat)
   case atStart=>exact⟨0,rfl,Nat.zero_le _,HBA.out⟩
   case round=>
    obtain⟨k,rfl,hk,hbl⟩:=hrel
    have HBL:Hid(Below w1.heap.size w1 wr):=hbl
    obtain⟨t0,t1,t2,t3,t4,p5⟩:=box6(HX1.out wr hbl)
    obtain⟨t0',t1',t2',t3',t4',q5⟩:=box6(HX2.out wr hbl)
    clear t0 t1 t2 t3 t4 t0' t1' t2' t3' t4'
    by_cases hlt:k<n
    ·have hltI:(k:Int)<n:=by omega
     have hl1:k<us.length:=by have:=HN.out;omega
     have hl2:k<us'.length:=by have:=HN.out;omega
     have hl3:k<next.length:=by have:=HN.out;omega
     have hbw:=HST.out wr hbl
     obtain⟨b1,o1,x1,hform,hcell⟩:=(HU.out.below hbw).nonnil(by omega)
     injection hform with e1 e2 e3
     subst e1
     obtain⟨b2,o2,x2,hform',hcell'⟩:=(HU'.out.below hbw).nonnil(by omega)
     injection hform' with e1' e2' e3'
     subst e1'
     have d1:=hcell k hl1
     have d2:=hcell' k hl2
     have r1:=HR.out k hl1 hl3
     have r2:=HR'.out k hl2 hl3
     have hsm:=HS3.out next[k](List.getElem_mem hl3)
     obtain⟨u1,hu1⟩:∃ u1,u1=us[k]:=⟨_,rfl⟩
     obtain⟨u2,hu2⟩:∃ u2,u2=us'[k]:=⟨_,rfl⟩
     obtain⟨r,hr⟩:∃ r,r=next[k]:=⟨_,rfl⟩
     rw [←hu1] at d1 r1
     rw [←hu2] at d2 r2
     rw [←hr] at r1 r2 hsm
     simp only [id] at d1 d2
     obtain⟨ra,rc,rfl⟩:=r1.form
     obtain⟨ra',rc',rfl⟩:=r2.form
     obtain⟨l,hl⟩:∃ l,l=r.length:=⟨_,rfl⟩
     rw [←hl] at d1 d2 r1 r2 hsm
     unfold maxLen at hsm
     have HL:Hid(l=r.length):=hl
     have HR1:Hid(RowE eI w(.slice ra l rc)r):=r1
     have HR2:Hid(RowE eI w(.slice ra' l rc')r):=r2
     have HD:Hid(∀ W,Below wr.heap.size wr W→W.cell?⟨w.heap.size,5,none⟩=some(.slice(some⟨b1,o1,none⟩)n cn)∧W.cell?⟨w.heap.size+1,5,none⟩=some(.slice(some⟨b2,o2,none⟩)n cn')∧W.cell?⟨b1,o1+k,none⟩=some(.slice ra l rc)∧W.cell?⟨b2,o2+k,none⟩=some(.slice ra' l rc')):=fun W hb=>⟨cell_below hb p5,cell_below hb q5,cell_below hb d1,cell_below hb d2⟩
     clear hcell hcell' e2 e3 e2' e3' hu1 hu2 hr hbl hbw r1 r2 hl hl1 hl2 hl3 hlt
     go_wp2
     go_quiet(fail)
     go_wp2
     clear p5 q5 d1 d2
     rename World=>wo
     have HBO:Hid(Below w1.heap.size w1(wo.drewN nq)):=belowQ HBL.out nq
     have HD2:Hid(∀ W,Below wo.heap.size(wo.drewN nq)W→Below wo.heap.size wo W):=fun W hb=>(belowQ(Below.refl _ _)nq).trans hb
     have hzo:(wo.drewN nq).heap.size=wo.heap.size:=rfl
     have HZ1:Hid(w1.heap.size≤wo.heap.size):=HBL.out.size
     clear HBL
     go_loopw [7](fun j wr=>∃ i:Nat,j=.int .i64 i∧i≤l∧Below wo.heap.size(wo.drewN nq)wr)(fun j _=>l-(intOf j).toNat)
     case atStart=>exact⟨0,rfl,Nat.zero_le _,Below.refl _ _⟩
     case round=>
      obtain⟨i,rfl,hi,hbi⟩:=hrel
      have HBI:Hid(Below wo.heap.size(wo.drewN nq)wr):=hbi
      have hbw:=HST.out wr(HBO.out.trans(hbi.mono HZ1.out))
      obtain⟨p5,q5,d1,d2⟩:=HD.out wr(HD2.out wr hbi)
      by_cases hlt:i<l
      ·have hltJ:(i:Int)<l:=by omega
       have hl1:i<r.length:=by have:=HL.out;omega
       obtain⟨b3,o3,x3,hform,hcell⟩:=(HR1.out.below hbw).nonnil(by omega)
       injection hform with e1 e2 e3
       subst e1
       obtain⟨b4,o4,x4,hform',hcell'⟩:=(HR2.out.below hbw).nonnil(by omega)
       injection hform' with e1' e2' e3'
       subst e1'
       have f1:=hcell i hl1
       have f2:=hcell' i hl1
       obtain⟨z,hz⟩:∃ z,z=r[i]:=⟨_,rfl⟩
       rw [←hz] at f1 f2
       clear hcell hcell' e2 e3 e2' e3' hz hbi hbw hl1
       go_wp2
       go_quiet(fail)
       go_wp2
       go_roundw
       case rel=>exact⟨i+1,by go_num,by omega,belowQ HBI.out _⟩
       case measure=>simp [intOf]<;>omega
      ·have hkJ:¬ (i:Int)<l:=by omega
       clear hbi hbw
       go_wp2
       go_roundw
       case rel=>exact⟨k+1,by go_num,by omega,HBO.out.trans(HBI.out.mono HZ1.out)⟩
       case measure=>simp [intOf]<;>omega
    ·have hkI:¬ (k:Int)<n:=by omega
     clear hbl
     go_wp2
     go_ret
     exact⟨rfl,HST.out _ HBL.out⟩
def pkN(c:Int)(n:Nat):Nat:=((if c<0 then -(c+1)else c)%n).toNat
theorem pkN_lt(c:Int)(n:Nat)(h:0<n):pkN c n<n:=by
 unfold pkN
 have:=Int.emod_lt_of_pos(if c<0 then -(c+1)else c)(b:=n)(by omega)
 have:=Int.emod_nonneg(if c<0 then -(c+1)else c)(b:=n)(by omega)
 omega
theorem kpick_any(w:World)(c:Int)(n:Nat)(h1:-9223372036854775808≤c)(h2:c≤9223372036854775807)(hn:0<n)(hn2:n≤9223372036854775807) :
  Calls Tryz.prog 21 #[.int .i64 c,.int .i64 n] w fun e w'=>e=.returned(.int .i64(pkN c n))∧w'=w:=by
 have hz:((n:Int)==0)=false:=by simp;omega
 by_cases h0:c<0
 ·go_enter Tryz.func21,Tryz.ntmps21
  go_wp2
  go_ret
  have e:-((c+1).tmod(n:Int))=(pkN c n:Int):=by
   unfold pkN
   rw [if_pos h0,←Int.neg_tmod,Int.tmod_eq_emod_of_nonneg(by omega),Int.toNat_of_nonneg(Int.emod_nonneg _(by omega))]
  rw [←e]
  exact⟨rfl,rfl⟩
 ·go_enter Tryz.func21,Tryz.ntmps21
  go_wp2
  go_ret
  have e:c%(n:Int)=(pkN c n:Int):=by
   unfold pkN
   rw [if_neg(by omega),Int.toNat_of_nonneg(Int.emod_nonneg _(by omega))]
  rw [←e]
  exact⟨rfl,rfl⟩
end Go.Proofs.YtbjabpodkaokjaaGreatDoor

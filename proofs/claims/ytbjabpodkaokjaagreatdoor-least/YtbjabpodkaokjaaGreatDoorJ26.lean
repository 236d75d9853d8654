import Derived.Test.YtbjabpodkaokjaaGreatDoorJ25
import Derived.Test.YtbjabpodkaokjaaGreatDoorJ20
set_option linter.unusedVariables false
set_option linter.unusedSimpArgs false
set_option maxHeartbeats 4000000
set_option maxRecDepth 100000
namespace Go.Proofs.YtbjabpodkaokjaaGreatDoor
open Go.RowKit
open Sx (Prt Cnt)
theorem times_of (p:Prt) (hok:TrOk p) (hp:PartK p) (c:Cnt) (hc:CntOk c):TimesK p c:=by
 intro w sb vb vf e n s h hR
 obtain⟨sg,l,m⟩:=c
 rcases hc with hs|hs|hs|⟨hs,h0,h3,h1⟩
 ·simp only at hs;subst hs
  rw[show cop ⟨42,l,m⟩=1 from rfl,Nat.mul_one] at h
  obtain⟨w1,hpre⟩:=tPre p hok hp 42 l m w sb vb vf e n _ s h (Nat.le_refl _) hR
  exact times_star p l m w w1 sb vb vf e n s h hpre _ rfl
 ·simp only at hs;subst hs
  rw[show cop ⟨43,l,m⟩=1 from rfl,Nat.mul_one] at h
  obtain⟨w1,hpre⟩:=tPre p hok hp 43 l m w sb vb vf e n _ s h (Nat.le_refl _) hR
  exact times_plus p l m w w1 sb vb vf e n s h hpre _ rfl
 ·simp only at hs;subst hs
  rw[show cop ⟨63,l,m⟩=1 from rfl,Nat.mul_one] at h
  obtain⟨w1,hpre⟩:=tPre p hok hp 63 l m w sb vb vf e n _ s h (Nat.le_refl _) hR
  exact times_ask p l m w w1 sb vb vf e n s h hpre _ rfl
 ·simp only at hs h0 h3 h1;subst hs
  obtain⟨L,rfl⟩:∃ L:Nat,l=L:=⟨l.toNat,by omega⟩
  rcases h1 with rfl|⟨h1,h2⟩
  ·rw[show cop ⟨123,L,-1⟩=L+1 by simp[cop]] at h
   obtain⟨t1,t2,t3⟩:=tb_new w s 123 (L:Int) (-1)
   have:=times_endless p hok hp L (by omega) w _ sb vb vf e n s h (TR.new h t2 (by omega)) t1 rfl hR _ _ rfl rfl
   have e1:timesM (exP p) ⟨123,L,-1⟩ e=braceM (exP p) L L (exP p e).1.may ((exP p e).2.join (exP p e).1 (exP p e).1):=by
    unfold timesM
    rw[if_neg (show ¬(123:UInt8)=42 by decide),if_neg (show ¬(123:UInt8)=43 by decide),if_neg (show ¬(123:UInt8)=63 by decide),if_pos rfl]
    simp[mayM,agM]
   rw[e1]
   exact this
  ·obtain⟨M,rfl⟩:∃ M:Nat,m=M:=⟨m.toNat,by omega⟩
   have hm:¬(M:Int)=-1:=by omega
   rw[show cop ⟨123,L,M⟩=M by simp[cop,hm]] at h
   obtain⟨t1,t2,t3⟩:=tb_new w s 123 (L:Int) (M:Int)
   have:=times_brace p hok hp L M (by omega) (by omega) w _ sb vb vf e n s h (TR.new h t2 (by omega)) t1 rfl hR
   have e1:timesM (exP p) ⟨123,L,M⟩ e=braceM (exP p) L M pcN e:=by
    unfold timesM
    rw[if_neg (show ¬(123:UInt8)=42 by decide),if_neg (show ¬(123:UInt8)=43 by decide),if_neg (show ¬(123:UInt8)=63 by decide),if_neg hm]
    simp
   rw[e1]
   exact this
mutual
theorem part_all:∀ p,TrOk p→PartK p
 |.mk g S cs,h=>by
  simp only[TrOk] at h
  exact part_of g S (atom_of g S (choices_of g h.2 (fun c hc=>chain_of c (trVs_iff.1 h.2 c hc) (vs_all g h.2 c hc)))) (fun ds c hd hP hc=>times_of (.mk g S ds) (by simp only[TrOk];exact⟨hd,h.2⟩) hP c hc) (spCs_all g h.2) _ cs rfl h.1
theorem ps_all:∀ ps,TrOkC ps→∀ p∈ps,PartK p
 |[],_,p,hp=>by simp at hp
 |q::ps,h,p,hp=>by
  simp only[TrOkC] at h
  rcases List.mem_cons.1 hp with he|hp
  ·rw[he];exact part_all q h.1
  ·exact ps_all ps h.2 p hp
theorem vs_all:∀ cs,TrOkVs cs→∀ c∈cs,∀ p∈c,PartK p
 |[],_,c,hc,p,hp=>by simp at hc
 |d::cs,h,c,hc,p,hp=>by
  simp only[TrOkVs] at h
  rcases List.mem_cons.1 hc with he|hc
  ·rw[he] at hp;exact ps_all d h.1 p hp
  ·exact vs_all cs h.2 c hc p hp
end
theorem choices_all (cs:List (List Prt)) (h:TrOkVs cs):ChoicesK cs:=choices_of cs h (fun c hc=>chain_of c (trVs_iff.1 h c hc) (vs_all cs h c hc))
theorem rdM_snoc (b:Nat):∀(xs:List (Nat→Bool)) (S:Nat→Bool) (i:Nat) (a:W4),rdM b (xs++[S]) i a=(if S b then(rdM b xs i a).or (bit1 (i+xs.length)) else rdM b xs i a)
 |[],S,i,a=>by simp[rdM]
 |T::xs,S,i,a=>by
  simp only[List.cons_append,rdM,List.length_cons]
  rw[rdM_snoc b xs S (i+1)]
  rw[show i+1+xs.length=i+(xs.length+1) by omega]
theorem rdM_sp (b:Nat):∀(xs:List (Nat→Bool)) (i:Nat) (a:W4),i+xs.length≤64→Sp i a→Sp (i+xs.length) (rdM b xs i a)
 |[],i,a,_,h=>h
 |S::xs,i,a,hl,h=>by
  simp only[rdM]
  simp only[List.length_cons] at hl ⊢
  rw[show i+(xs.length+1)=i+1+xs.length by omega]
  refine rdM_sp b xs (i+1) _ (by omega) ?_
  split
  ·exact(h.mono (by omega)).or (Sp.bit (by omega))
  ·exact h.mono (by omega)
theorem BsAt.at {w:World}{base:Nat}{v:Value}{bs:List (Nat→Bool)} (h:BsAt w base v bs) {i:Nat} (hi:i<bs.length):∃ g cap,∃ x:W4,v=.slice (some ⟨g,0,none⟩) bs.length cap∧base≤g∧W4At w g (i*4) x∧Sx.Wd x.x0 x.x1 x.x2 x.x3 bs[i]:=by
 obtain⟨ws,h1,h2,h3⟩:=h
 obtain⟨g,cap,e,hg,hw⟩:=h1.at (i:=i) (by omega)
 exact⟨g,cap,ws[i],by rw[e,h2],hg,hw,h3 i (by omega) hi⟩
theorem BsAt.form {w:World}{base:Nat}{v:Value}{bs:List (Nat→Bool)} (h:BsAt w base v bs):∃ a c,v=.slice a bs.length c:=by
 obtain⟨ws,h1,h2,h3⟩:=h
 obtain⟨a,c,e⟩:=h1.form
 exact⟨a,c,by rw[e,h2]⟩
theorem BsAt.lt {w:World}{base:Nat}{v:Value}{bs:List (Nat→Bool)} (h:BsAt w base v bs) {b:Nat} (hb:v.ownBlock=some b):base≤b∧b<w.heap.size:=by
 obtain⟨ws,h1,_⟩:=h
 exact h1.lt hb
theorem BsAt.below {w w':World}{base:Nat}{v:Value}{bs:List (Nat→Bool)} (h:BsAt w base v bs) (hb:Below w.heap.size w w'):BsAt w' base v bs:=h.blk (fun b h1=>hb.block b (h.lt h1).2)
theorem W4At.blk {w w':World}{b off:Nat}{x:W4} (h:W4At w b off x) (k:w'.heap[b]?=w.heap[b]?):W4At w' b off x:=by
 refine⟨?_,?_,?_,?_,fun o=>?_⟩
 ·rw[←h.c0];simp[World.cell?,k]
 ·rw[←h.c1];simp[World.cell?,k]
 ·rw[←h.c2];simp[World.cell?,k]
 ·rw[←h.c3];simp[World.cell?,k]
 ·rw[←h.fz o];simp[World.frozen?,k]
theorem W4At.below {w w':World}{b off:Nat}{x:W4} (h:W4At w b off x) (hb:Below w.heap.size w w'):W4At w' b off x:=h.blk (hb.block b (cell_lt h.c0))
abbrev zW:Array Value:=#[.int .u64 0,.int .u64 0,.int .u64 0,.int .u64 0]
theorem readersOf_any (w:World) (sb base:Nat) (vb:Value) (bs:List (Nat→Bool)) (b:Nat) (hb:b<256) (hl:bs.length≤64) (hc:w.cell? ⟨sb,0,none⟩=some vb) (h:BsAt w base vb bs) :
  Calls Tryz.prog 127 #[.pointer (some ⟨sb,0,none⟩),.int .u8 b] w fun e w'=>e=.returned (rdM b bs 0 W4.none).v∧Below w.heap.size w w':=by
 obtain⟨va,vc,rfl⟩:=h.form
 have HB:Hid (BsAt w base (.slice va bs.length vc) bs):=h
 obtain⟨w1,hw1⟩:∃ w1,w1=(w.alloc (.cells zW 150)).alloc (.cells zW 150):=⟨_,rfl⟩
 have hb1:Below w.heap.size w w1:=by rw[hw1];exact((Below.refl _ _).alloc (Nat.le_refl _) _).alloc (by simp) _
 have k0:w1.heap[w.heap.size]?=some (.cells zW 150):=by rw[hw1,Below.heap_alloc _ _ _ (by simp)];exact heap_alloc_new w _
 have k1:w1.heap[w.heap.size+1]?=some (.cells zW 150):=by
  rw[hw1]
  have:=heap_alloc_new (w.alloc (.cells zW 150)) (.cells zW 150)
  simpa using this
 have c1:w1.cell? ⟨sb,0,none⟩=some (.slice va bs.length vc):=cell_below hb1 hc
 have HW:Hid (w1=(w.alloc (.cells zW 150)).alloc (.cells zW 150)):=hw1
 have HK:Hid (w1.heap[w.heap.size]?=some (.cells zW 150)∧W4At w1 (w.heap.size+1) 0 W4.none):=⟨k0,by refine⟨?_,?_,?_,?_,fun o=>?_⟩<;>simp[World.cell?,World.frozen?,k1,W4.none]⟩
 have HB1:Hid (Below w.heap.size w w1):=hb1
 obtain⟨N,hN⟩:∃ N,N=bs.length:=⟨_,rfl⟩
 have HN:Hid (N=bs.length):=hN
 rw[←hN] at c1 hl
 have c1':((w.alloc (.cells zW 150)).alloc (.cells zW 150)).cell? ⟨sb,0,none⟩=some (.slice va N vc):=by rw[←hw1];exact c1
 clear hw1 hb1 k0 k1 hc h hN
 go_enter Tryz.func127,Tryz.ntmps127
 go_wp2
 rw[←HW.out]
 go_loopw [14] (fun i wr=>∃ k:Nat,k≤N∧i=.int .i64 k∧Below w.heap.size w wr∧wr.heap[w.heap.size]?=some (.cells zW 150)∧W4At wr (w.heap.size+1) 0 (rdM b (bs.take k) 0 W4.none)) (fun i _=>N-(intOf i).toNat)
 case atStart=>exact⟨0,by omega,rfl,HB1.out,HK.out.1,HK.out.2⟩
 case round=>
  clear c1 c1'
  obtain⟨k,hk,rfl,hbw,hk0,hat⟩:=hrel
  have HBW:Hid (Below w.heap.size w wr):=hbw
  have HK0:Hid (wr.heap[w.heap.size]?=some (.cells zW 150)):=hk0
  have HAT:Hid (W4At wr (w.heap.size+1) 0 (rdM b (bs.take k) 0 W4.none)):=hat
  have hlt1:w.heap.size+1<wr.heap.size:=cell_lt hat.c0
  have hsp:Sp k (rdM b (bs.take k) 0 W4.none):=by
   have:=rdM_sp b (bs.take k) 0 W4.none (by simp;have:=HN.out;omega) (Sp.none 0)
   rw[Nat.zero_add,List.length_take,Nat.min_eq_left (by have:=HN.out;omega)] at this
   exact this
  by_cases hlt:k<N
  ·have hltI:(k:Int)<N:=by omega
   have hkb:k<bs.length:=by have:=HN.out;omega
   obtain⟨g,cap,x,e1,hg,hx,hd⟩:=(HB.out.below hbw).at hkb
   simp only[Value.slice.injEq,true_and] at e1
   obtain⟨rfl,rfl⟩:=e1
   obtain⟨x0,x1,x2,x3,-⟩:=hx
   have hal:Below wr.heap.size wr (wr.alloc (.cells #[.int .u64 (x.x0:Int),.int .u64 (x.x1:Int),.int .u64 (x.x2:Int),.int .u64 (x.x3:Int)] 226)):=(Below.refl _ _).alloc (Nat.le_refl _) _
   have hhas:=Sx.has_any (wr.alloc (.cells #[.int .u64 (x.x0:Int),.int .u64 (x.x1:Int),.int .u64 (x.x2:Int),.int .u64 (x.x3:Int)] 226)) x.x0 x.x1 x.x2 x.x3 b bs[k] hb hd
   have HRD:Hid (rdM b (bs.take (k+1)) 0 W4.none=(if bs[k] b then(rdM b (bs.take k) 0 W4.none).or (bit1 k) else rdM b (bs.take k) 0 W4.none)):=by
    show _=_
    rw[List.take_succ_eq_append_getElem hkb,rdM_snoc,List.length_take,Nat.min_eq_left (by omega),Nat.zero_add]
   obtain⟨A,hA⟩:∃ A,A=rdM b (bs.take k) 0 W4.none:=⟨_,rfl⟩
   rw[←hA] at HRD HAT hsp
   have hAok:=hsp.ok (by omega)
   have hk64:(k:Int)<64:=by omega
   have HAL:Hid (Below wr.heap.size wr (wr.alloc (.cells #[.int .u64 (x.x0:Int),.int .u64 (x.x1:Int),.int .u64 (x.x2:Int),.int .u64 (x.x3:Int)] 226))):=hal
   cases hbit:bs[k] b with
   |false=>
    rw[hbit] at hhas HRD
    simp only[Bool.false_eq_true,if_false] at HRD
    clear hat hk0 hbw hd hal hA hsp
    go_wp2_with (go_at_call 177;refine hhas.mono ?_;rintro e w2 ⟨rfl,hb2⟩;have HB2:Hid (Below wr.heap.size wr w2):=HAL.out.trans (hb2.mono (by simp));clear hb2)
    go_roundw
    case rel=>exact⟨k+1,by omega,by go_num,HBW.out.trans (HB2.out.mono HBW.out.size),(HB2.out.block _ (by omega)).trans HK0.out,by rw[HRD.out];exact HAT.out.below HB2.out⟩
    case measure=>simp[intOf]<;>omega
   |true=>
    rw[hbit] at hhas HRD
    simp only[if_true] at HRD
    have hadd:=fun w2 (hb2:Below wr.heap.size wr w2)=>addS_any w2 (w.heap.size+1) 0 k A hAok (by omega) (HAT.out.below hb2)
    clear hat hk0 hbw hd hal hA hsp
    go_wp2_with (first|(go_at_call 178;refine(hadd w2 HB2.out).mono ?_;rintro e w3 ⟨rfl,hx3,hf3⟩;have HX3:Hid (W4At w3 (w.heap.size+1) 0 (A.or (bit1 k))):=hx3;have hs2:=HB2.out.size;have HK3:Hid (w3.heap[w.heap.size]?=some (.cells zW 150)):=(hf3.four.block _ (by omega) (by omega)).trans ((HB2.out.block _ (by omega)).trans HK0.out);have HB3:Hid (Below w.heap.size w w3):=(HBW.out.trans (HB2.out.mono HBW.out.size)).trans (hf3.below (by omega) (by omega));clear hx3 hf3)|(go_at_call 177;refine hhas.mono ?_;rintro e w2 ⟨rfl,hb2⟩;have HB2:Hid (Below wr.heap.size wr w2):=HAL.out.trans (hb2.mono (by simp));clear hb2))
    go_roundw
    case rel=>exact⟨k+1,by omega,by go_num,HB3.out,HK3.out,by rw[HRD.out];exact HX3.out⟩
    case measure=>simp[intOf]<;>omega
  ·have hkI:¬(k:Int)<N:=by omega
   have HE:Hid (rdM b (bs.take k) 0 W4.none=rdM b bs 0 W4.none):=by
    show _=_
    rw[show k=bs.length by have:=HN.out;omega,List.take_length]
   obtain⟨A,hA⟩:∃ A,A=rdM b (bs.take k) 0 W4.none:=⟨_,rfl⟩
   rw[←hA] at HAT HE
   obtain⟨a0,a1,a2,a3,af⟩:=HAT.out
   have z0:wr.cell? ⟨w.heap.size,0,none⟩=some (.int .u64 0):=by simp[World.cell?,hk0]
   have z1:wr.cell? ⟨w.heap.size,1,none⟩=some (.int .u64 0):=by simp[World.cell?,hk0]
   have z2:wr.cell? ⟨w.heap.size,2,none⟩=some (.int .u64 0):=by simp[World.cell?,hk0]
   have z3:wr.cell? ⟨w.heap.size,3,none⟩=some (.int .u64 0):=by simp[World.cell?,hk0]
   have zf:∀ o,wr.frozen? ⟨w.heap.size,o,none⟩=false:=fun o=>by simp[World.frozen?,hk0]
   clear hat hbw hA hsp hk0
   go_wp2
   rw[←HE.out]
   refine bodyPost_ret (v:=A.v) (by simp[results,Tryz.results127,go_sem,z0,z1,z2,z3,W4.v]) rfl ⟨rfl,?_⟩
   have:=HBW.out
   exact((by(repeat first|(with_reducible refine Below.setCell ?_ (by first|exact Nat.le_refl _|(simp;done)|(simp;omega)) _)|(with_reducible refine Below.alloc ?_ (by first|omega|(simp;done)|(simp;omega)) _)|(with_reducible refine Below.drew ?_));exact this))
end Go.Proofs.YtbjabpodkaokjaaGreatDoor

import Derived.Test.YtbjabpodkaokjaaGreatDoorDFp01
import Derived.Test.YtbjabpodkaokjaaGreatDoorJ29
import Derived.KernelRfl
import Derived.Test.YtbjabpodkaokjaaGreatDoorS06
import Derived.BigGuard
import Derived.Test.YtbjabpodkaokjaaGreatDoorS09
set_option linter.unusedVariables false
set_option linter.unusedSimpArgs false
set_option maxHeartbeats 4000000
set_option maxRecDepth 100000
namespace Go.Proofs.YtbjabpodkaokjaaGreatDoor
open Go.RowKit
theorem Tryz.infoQB:(Tryz.prog.info? 4).map (fun i=>(i.zero,i.size,i.bytes))=some (some (.bool false),1,1):=by kernel_rfl
structure TO (B:Nat) (w1 W:World) (n:Nat) (D:Nat→Nat→Bool) (vo:Value) (gs:List Nat):Prop where
 bl:Below B w1 W
 hB:B≤w1.heap.size
 ow:W.ownsRow B 30 1 vo gs.length (gs.map (rowV n))
 nw:∀ j (h:j<gs.length),Nw W gs[j] n (fun k=>.bool (D j k))
 lo:∀ j (h:j<gs.length),B≤gs[j]∧gs[j]<W.heap.size
 nd:gs.Nodup
 no:∀ g,vo.ownBlock=some g→g ∉ gs
theorem TO.app {B:Nat}{w1 W:World}{n:Nat}{D:Nat→Nat→Bool}{vo:Value}{gs:List Nat} (h:TO B w1 W n D vo gs) {wa w4:World}{q g cap H:Nat} (hq:Nw W q n (fun k=>.bool (D gs.length k))) (hl:B≤q∧q<W.heap.size) (h1:q ∉ gs) (h2:vo.ownBlock≠some q) (hwa:Below W.heap.size W wa) (ho:w4.ownsRow B 30 1 (.slice (some ⟨g,0,none⟩) (gs.length+1) cap) (gs.length+1) (gs.map (rowV n)++[rowV n q])) (hH:wa.heap.size=H)
  (hc:(vo.ownBlock=some g∧wa.grownBy w4 (some g))∨(g=H∧wa.grownBy w4 none)):TO B w1 w4 n D (.slice (some ⟨g,0,none⟩) (gs.length+1) cap) (gs++[q]):=by
 have hsza:=hwa.size
 have hz:=h.bl.size
 have hB:=h.hB
 have blk:∀ b,b<W.heap.size→vo.ownBlock≠some b→w4.heap[b]?=W.heap[b]?:=fun b hb hne=>(grown_blk hH hc (by omega) hne).trans (hwa.block b hb)
 obtain⟨g1,g2,g3,g4⟩:=grown_env hc
 have hgs:∀ b,b∈gs→vo.ownBlock≠some b:=fun b hb e=>h.no b e hb
 refine⟨⟨g1.trans (hwa.os.trans h.bl.os),g2.trans (hwa.tape.trans h.bl.tape),g3.trans (hwa.output.trans h.bl.output),by omega,fun b hb=>?_⟩,hB,by simpa using ho,fun j hj=>?_,fun j hj=>?_,?_,fun b hb hm=>?_⟩
 ·exact(blk b (by omega) (fun e=>by have:=own_ge h.ow e;omega)).trans (h.bl.block b hb)
 ·rcases Nat.lt_or_ge j gs.length with hj'|hj'
  ·rw[List.getElem_append_left hj']
   exact(h.nw j hj').of_block (blk _ (h.lo j hj').2 (hgs _ (List.getElem_mem hj')))
  ·have hje:j=gs.length:=by simp at hj;omega
   subst hje
   simp only[List.getElem_append_right (Nat.le_refl _),Nat.sub_self,List.getElem_cons_zero]
   exact hq.of_block (blk q hl.2 h2)
 ·rcases Nat.lt_or_ge j gs.length with hj'|hj'
  ·rw[List.getElem_append_left hj']
   exact⟨(h.lo j hj').1,by have:=(h.lo j hj').2;omega⟩
  ·have hje:j=gs.length:=by simp at hj;omega
   subst hje
   simp only[List.getElem_append_right (Nat.le_refl _),Nat.sub_self,List.getElem_cons_zero]
   exact⟨hl.1,by omega⟩
 ·rw[List.nodup_append]
  exact⟨h.nd,by simp,fun a ha b hb e=>by simp at hb;subst hb;subst e;exact h1 ha⟩
 ·simp[Value.ownBlock] at hb
  subst hb
  rcases hc with⟨e,-⟩|⟨e,-⟩
  ·rcases List.mem_append.1 hm with q1|q1
   ·exact h.no g e q1
   ·simp at q1;subst q1;exact h2 e
  ·rcases List.mem_append.1 hm with q1|q1
   ·obtain⟨j,hj,e2⟩:=List.mem_iff_getElem.1 q1
    have:=(h.lo j hj).2
    omega
   ·simp at q1;omega
structure MX (B:Nat) (w1 W:World) (n A:Nat) (gs:List Nat) (M:Nat→Nat→Bool):Prop where
 bl:Below B w1 W
 gl:gs.length=n
 oc:∀ i (h:i<gs.length),W.cell? ⟨A,i,none⟩=some (rowV n gs[i])
 nw:∀ i (h:i<gs.length),Nw W gs[i] n (fun k=>.bool (M i k))
 lo:∀ i (h:i<gs.length),B≤gs[i]∧gs[i]≠A
 nd:gs.Nodup
 hA:B≤A
theorem MX.drew {B:Nat}{w1 W:World}{n A:Nat}{gs:List Nat}{M:Nat→Nat→Bool} (h:MX B w1 W n A gs M) (k:Nat):MX B w1 (W.drewN k) n A gs M:=⟨⟨h.bl.os,h.bl.tape,h.bl.output,h.bl.size,h.bl.block⟩,h.gl,h.oc,fun i hi=>⟨(h.nw i hi).c,(h.nw i hi).fz⟩,h.lo,h.nd,h.hA⟩
structure SW (n c:Nat) (nxt:Nat→Nat→Nat) (M0 M:Nat→Nat→Bool) (g:Bool) (i k d:Nat):Prop where
 mo:∀ a b,M0 a b=true→M a b=true
 ag:g=true→∃ a b,a<n∧b<n∧M0 a b=false∧M a b=true
 no:g=false→(∀ a b,M a b=M0 a b)∧∀ a b e,a<n→b<n→e<c→(a<i∨(a=i∧(b<k∨(b=k∧e<d))))→M0 a b=false→M0 (nxt a e) (nxt b e)=false
theorem SW.start (n c:Nat) (nxt:Nat→Nat→Nat) (M:Nat→Nat→Bool):SW n c nxt M M false 0 0 0:=⟨fun _ _ h=>h,fun h=>(by cases h),fun _=>⟨fun _ _=>rfl,fun a b e _ _ _ h=>by omega⟩⟩
theorem SW.next {n c:Nat}{nxt:Nat→Nat→Nat}{M0 M:Nat→Nat→Bool}{g:Bool}{i k d:Nat} (h:SW n c nxt M0 M g i k d) (hf:M i k=true∨c≤d):SW n c nxt M0 M g i (k+1) 0:=by
 refine⟨h.mo,h.ag,fun q=>⟨(h.no q).1,fun a b x ha hb hx hl h0=>?_⟩⟩
 by_cases hn:a=i∧b=k
 ·obtain⟨rfl,rfl⟩:=hn
  rcases hf with hf|hf
  ·rw[(h.no q).1] at hf;rw[hf] at h0;cases h0
  ·exact(h.no q).2 a b x ha hb hx (by omega) h0
 ·exact(h.no q).2 a b x ha hb hx (by omega) h0
def Clo (n c:Nat) (nxt:Nat→Nat→Nat) (M:Nat→Nat→Bool):Prop:=∀ a b e,a<n→b<n→e<c→M a b=false→M (nxt a e) (nxt b e)=false
theorem SW.done {n c:Nat}{nxt:Nat→Nat→Nat}{M0 M:Nat→Nat→Bool}{i:Nat} (h:SW n c nxt M0 M false i 0 0) (hi:n≤i):Clo n c nxt M:=fun a b e ha hb he h0=>by
 obtain⟨h1,h2⟩:=h.no rfl
 rw[h1] at h0 ⊢
 exact h2 a b e ha hb he (by omega) h0
def eiL (a b:List Bool):List Bool:=List.zipWith (·||·) a b
theorem eiL_len {a b:List Bool} (h:b.length=a.length):(eiL a b).length=a.length:=by simp[eiL,h]
theorem eiL_at {a b:List Bool} (h:b.length=a.length) {i:Nat} (hi:i<a.length):(eiL a b)[i]'(by rw[eiL_len h];exact hi)=(a[i]||b[i]'(by omega)):=by simp[eiL]
theorem either_any (w:World) (va vb:Value) (a b:List Bool) (ha:RowE eB w va a) (hb:RowE eB w vb b) (hl:b.length=a.length) (hn:a.length≤100) (h1:1≤a.length) :
  Calls Tryz.prog 163 #[va,vb] w fun e w'=>∃ v,e=.returned v∧RowE eB w' v (eiL a b)∧Below w.heap.size w w':=by
 obtain⟨n,hnn⟩:∃ n,n=a.length:=⟨_,rfl⟩
 obtain⟨b1,o1,c1,rfl,hca⟩:=ha.nonnil (by omega)
 obtain⟨b2,o2,c2,rfl,hcb⟩:=hb.nonnil (by omega)
 obtain⟨iB,hiB,hzB,hz1B,hz2B⟩:=info_parts Tryz.infoQB
 have hmk:=fun w0=>make_eq Tryz.underlying30 hiB hzB hz1B hz2B n (by omega) (by unfold maxLen;omega) w0
 have HN:Hid (n=a.length):=hnn
 have HL:Hid (b.length=a.length):=hl
 have HCA:Hid (∀ j (hj:j<a.length),w.cell? ⟨b1,o1+j,none⟩=some (eB a[j])):=hca
 have HCB:Hid (∀ j (hj:j<b.length),w.cell? ⟨b2,o2+j,none⟩=some (eB b[j])):=hcb
 rw[hl]
 rw[←hnn] at hn h1 ⊢
 clear ha hb hl hca hcb hnn
 go_enter Tryz.func163,Tryz.ntmps163
 go_upto_region 3 with(fail)
 obtain⟨w1,hw1⟩:∃ w1,w1=w.alloc (.cells (mkA n (.bool false)) 4):=⟨_,rfl⟩
 rw[←hw1]
 have HB1:Hid (Below w.heap.size w w1):=by rw[hw1];exact(Below.refl _ _).alloc (Nat.le_refl _) _
 have HN1:Hid (Nw w1 w.heap.size n (fun _=>.bool false)):=by
  rw[hw1];exact Nw.new w n (.bool false) rfl 4
 obtain⟨q,hq⟩:∃ q,q=w.heap.size:=⟨_,rfl⟩
 have HQ:Hid (q=w.heap.size):=hq
 rw[←hq] at HN1 ⊢
 clear hw1 hq hmk
 go_loopw [6] (fun i wr=>∃ x:Nat,i=.int .i64 x∧x≤n∧Below w.heap.size w wr∧Nw wr q n (fun j=>.bool (decide (j<x)&&(a.getD j false||b.getD j false)))) (fun i _=>n-(intOf i).toNat)
 case atStart=>exact⟨0,rfl,Nat.zero_le _,HB1.out,HN1.out.congr (fun j _=>by simp)⟩
 case round=>
  obtain⟨x,rfl,hx,hbl,hnw⟩:=hrel
  have HBL:Hid (Below w.heap.size w wr):=hbl
  have HNW:Hid (Nw wr q n (fun j=>.bool (decide (j<x)&&(a.getD j false||b.getD j false)))):=hnw
  by_cases hxl:x<n
  ·have hxI:(x:Int)<n:=by omega
   have hxa:x<a.length:=by have:=HN.out;omega
   have hxb:x<b.length:=by have:=HN.out;have:=HL.out;omega
   have d1:=cell_below hbl (HCA.out x hxa)
   have d2:=cell_below hbl (HCB.out x hxb)
   have d3:=hnw.c x hxl
   have d4:=hnw.fz
   have HST:Hid (∀ v,v=(a.getD x false||b.getD x false)→Nw (wr.setCell ⟨q,x,none⟩ (.bool v)) q n (fun j=>.bool (decide (j<x+1)&&(a.getD j false||b.getD j false)))):=fun v hv=>(hnw.set x hxl (.bool v)).congr (fun j hj=>by
    by_cases e:j=x
    ·subst e;simp[hv]
    ·rw[if_neg e]
     by_cases e2:j<x
     ·simp[e2,Nat.lt_succ_of_lt e2]
     ·have e3:¬ j<x+1:=by omega
      simp[e2,e3])
   have HSB:Hid (∀ v,Below w.heap.size w (wr.setCell ⟨q,x,none⟩ v)):=fun v=>hbl.setCell (by rw[HQ.out];exact Nat.le_refl _) v
   have HVA:Hid (a.getD x false=a[x]):=getD_at hxa false
   have HVB:Hid (b.getD x false=b[x]):=getD_at hxb false
   obtain⟨z1,hz1⟩:∃ z,z=a[x]:=⟨_,rfl⟩
   obtain⟨z2,hz2⟩:∃ z,z=b[x]:=⟨_,rfl⟩
   rw[←hz1] at d1 HVA
   rw[←hz2] at d2 HVB
   clear hz1 hz2 hbl hnw
   cases z1
   all_goals
    go_wp2
    go_roundw
    case rel=>exact⟨x+1,by go_num,by omega,HSB.out _,HST.out _ (by rw[HVA.out,HVB.out];simp)⟩
    case measure=>simp[intOf]<;>omega
  ·have hxI:¬(x:Int)<n:=by omega
   have HXN:Hid (x=n):=by show _=_;omega
   clear hbl hnw
   go_wp2
   go_ret
   refine⟨_,rfl,?_,HBL.out⟩
   have hx':=HXN.out
   subst hx'
   have hlen:(eiL a b).length=x:=by rw[eiL_len HL.out,←HN.out]
   rw[←hlen]
   rw[←hlen] at HNW
   refine Nw.row HNW.out (fun j hj=>?_)
   have hja:j<a.length:=by have:=HN.out;omega
   have hjb:j<b.length:=by have:=HL.out;omega
   show Value.bool _=eB _
   rw[eiL_at HL.out hja,getD_at hja,getD_at hjb]
   simp[hj]
def pOf (k l:Nat) (c:UInt8):Bool:=if k=2 then c != 97 else c==UInt8.ofNat (97+l)
def atL (p:UInt8→Bool) (s:List UInt8) (A:List Bool):List Bool:=false::List.zipWith (fun a c=>a&&p c) A s
theorem atL_len {p:UInt8→Bool}{s:List UInt8}{A:List Bool} (h:A.length=s.length+1):(atL p s A).length=s.length+1:=by simp[atL,h]
theorem atL_at {p:UInt8→Bool}{s:List UInt8}{A:List Bool}{i:Nat} (hi:i<s.length) (ha:i<A.length):(atL p s A)[i+1]'(by simp[atL];omega)=(A[i]&&p s[i]):=by simp[atL]
abbrev FrC (s:List UInt8) (t:HT) (f:List Bool→List Bool):Prop:=∀ w lo p va A,HTAt lo w p t→RowE eB w va A→A.length=s.length+1→Calls Tryz.prog 110 #[.pointer (some ⟨p,0,none⟩),.string (ba s),va] w fun e w'=>∃ v,e=.returned v∧RowE eB w' v (f A)∧Below w.heap.size w w'
theorem from_leaf (s:List UInt8) (hs:s.length≤60) (k l m:Nat) (hk:k=0∨k=1∨k=2) (hl:l≤2):FrC s (.lf k l m) (atL (pOf k l) s):=by
 intro w lo p va A ht hA hlen
 simp only[HTAt] at ht
 obtain⟨b1,o1,c1,rfl,hca⟩:=hA.nonnil (by omega)
 obtain⟨n,hn⟩:∃ n,n=s.length:=⟨_,rfl⟩
 obtain⟨iB,hiB,hzB,hz1B,hz2B⟩:=info_parts Tryz.infoQB
 obtain⟨L,hL⟩:∃ L,L=n+1:=⟨_,rfl⟩
 have hmk:=fun w0=>make_eq Tryz.underlying30 hiB hzB hz1B hz2B L (by omega) (by unfold maxLen;omega) w0
 have HN:Hid (n=s.length):=hn
 have HLN:Hid (A.length=s.length+1):=hlen
 have HCA:Hid (∀ j (hj:j<A.length),w.cell? ⟨b1,o1+j,none⟩=some (eB A[j])):=hca
 have HP:Hid (∀ W,Below w.heap.size w W→W.heap[p]?=some (trB k l m none none)):=fun W hb=>by rw[hb.block p (some_lt ht.2)];exact ht.2
 obtain⟨p0,p1,-,-,-⟩:=box5 ht.2
 have hbz:(ba s).size=n:=by rw[ba_size];exact hn.symm
 have hn6:n≤60:=by omega
 rw[hlen,←hn,←hL]
 have hxL:(n:Int)<L:=by omega
 have HL:Hid (L=n+1):=hL
 obtain⟨sb,hsb⟩:∃ sb,sb=ba s:=⟨_,rfl⟩
 rw[←hsb] at hbz ⊢
 have HSB:Hid (sb=ba s):=hsb
 obtain⟨P,hP⟩:∃ P,P=pOf k l:=⟨_,rfl⟩
 have HP2:Hid (k=2→∀ c:UInt8,(((c.toNat:Nat):Int) != 97)=P c):=fun h c=>by
  rw[hP];unfold pOf;rw[if_pos h]
  by_cases q:c=97
  ·subst q;rfl
  ·have h1:((c.toNat:Nat):Int)≠97:=fun e=>q (UInt8.toNat_inj.1 (by show c.toNat=97;omega))
   rw[bne_iff_ne.2 h1,bne_iff_ne.2 q]
 have HP1:Hid (k≠2→∀ c:UInt8,(((c.toNat:Nat):Int)==97+(l:Int))=P c):=fun h c=>by
  rw[hP];unfold pOf;rw[if_neg h]
  have hz:(UInt8.ofNat (97+l)).toNat=97+l:=by simp;omega
  by_cases q:c=UInt8.ofNat (97+l)
  ·have h1:((c.toNat:Nat):Int)=97+(l:Int):=by rw[q,hz];omega
   rw[beq_iff_eq.2 h1,beq_iff_eq.2 q]
  ·have h1:((c.toNat:Nat):Int)≠97+(l:Int):=fun e=>q (UInt8.toNat_inj.1 (by omega))
   rw[beq_eq_false_iff_ne.2 h1,beq_eq_false_iff_ne.2 q]
 rw[←hP]
 clear hA hca hlen ht hs hn hsb hP hL
 go_enter Tryz.func110,Tryz.ntmps110
 rcases hk with rfl|rfl|rfl
 all_goals
  go_upto_region 2 with(fail)
  obtain⟨w1,hw1⟩:∃ w1,w1=w.alloc (.cells (mkA L (.bool false)) 4):=⟨_,rfl⟩
  rw[←hw1]
  have HB1:Hid (Below w.heap.size w w1):=by rw[hw1];exact(Below.refl _ _).alloc (Nat.le_refl _) _
  have HN1:Hid (Nw w1 w.heap.size L (fun _=>.bool false)):=by
   rw[hw1];exact Nw.new w L (.bool false) rfl 4
  obtain⟨q,hq⟩:∃ q,q=w.heap.size:=⟨_,rfl⟩
  have HQ:Hid (q=w.heap.size):=hq
  rw[←hq] at HN1 ⊢
  clear hw1 hq hmk p0 p1
  obtain⟨p0,p1,-,-,-⟩:=box5 (HP.out w1 HB1.out)
  go_upto_region 7 with(fail)
  clear p0 p1
  go_loopw [8,9] (fun i _ wr=>∃ x:Nat,i=.int .i64 x∧x≤n∧Below w.heap.size w wr∧Nw wr q L (fun j=>.bool (decide (j≤x)&&(atL P s A).getD j false))) (fun i _ _=>n-(intOf i).toNat)
  case atStart=>exact⟨0,rfl,Nat.zero_le _,HB1.out,HN1.out.congr (fun j _=>by cases j<;>simp[atL])⟩
  case round=>
   obtain⟨x,rfl,hx,hbl,hnw⟩:=hrel
   have HBL:Hid (Below w.heap.size w wr):=hbl
   have HNW:Hid (Nw wr q L (fun j=>.bool (decide (j≤x)&&(atL P s A).getD j false))):=hnw
   by_cases hxl:x<n
   ·have hxI:(x:Int)<n:=by omega
    have hxs:x<s.length:=by have:=HN.out;omega
    have hxa:x<A.length:=by have:=HLN.out;omega
    obtain⟨p0,p1,-,-,-⟩:=box5 (HP.out wr hbl)
    have d1:=cell_below hbl (HCA.out x hxa)
    have d3:=hnw.c (x+1) (by have:=HL.out;omega)
    have d4:=hnw.fz
    obtain⟨c,hc⟩:∃ c,c=s[x]:=⟨_,rfl⟩
    have hbx:∀ h:x<sb.size,(sb[x]'h).toNat=c.toNat:=fun h=>by
     have:=HSB.out
     subst this
     rw[hc];rfl
    have hc8:=c.toNat_lt
    have hx1:(x:Int)<sb.size:=by omega
    have hx2:(x:Int)+1<L:=by omega
    have hx3:(x:Int)<L:=by omega
    have HGX:Hid ((atL P s A).getD (x+1) false=(A[x]&&P c)):=by
     show _=_
     rw[getD_at (by rw[atL_len HLN.out];omega),atL_at hxs hxa,hc]
    have HST:Hid (∀ nq v,v=(atL P s A).getD (x+1) false→Nw ((wr.drewN nq).setCell ⟨q,x+1,none⟩ (.bool v)) q L (fun j=>.bool (decide (j≤x+1)&&(atL P s A).getD j false))):=fun nq v hv=>((show Nw (wr.drewN nq) q L _ from⟨hnw.c,hnw.fz⟩).set (x+1) (by have:=HL.out;omega) (.bool v)).congr (fun j hj=>by
     by_cases e:j=x+1
     ·subst e;simp[hv]
     ·rw[if_neg e]
      by_cases e2:j≤x
      ·have e3:j≤x+1:=by omega
       simp[e2,e3]
      ·have e3:¬ j≤x+1:=by omega
       simp[e2,e3])
    have HSBL:Hid (∀ nq v,Below w.heap.size w ((wr.drewN nq).setCell ⟨q,x+1,none⟩ v)):=fun nq v=>(belowQ hbl nq).setCell (by rw[HQ.out];exact Nat.le_refl _) v
    obtain⟨z,hz⟩:∃ z,z=A[x]:=⟨_,rfl⟩
    rw[←hz] at d1 HGX
    first|(have hpc:=HP1.out (by omega) c)|(have hpc:=HP2.out (by trivial) c)
    obtain⟨pc,hpce⟩:∃ pc,pc=P c:=⟨_,rfl⟩
    rw[←hpce] at hpc HGX
    clear hz hbl hnw hc hpce
    cases z
    all_goals
     go_wp2
     go_quiet (fail)
     go_wp2
     go_roundw
     case rel=>exact⟨x+1,by go_num,by omega,HSBL.out _ _,HST.out _ _ (by rw[HGX.out];simp)⟩
     case measure=>simp[intOf]<;>omega
   ·have hxI:¬(x:Int)<n:=by omega
    have HXN:Hid (x=n):=by show _=_;omega
    clear hbl hnw
    go_wp2
    go_ret
    refine⟨_,rfl,?_,HBL.out⟩
    have hlen:(atL P s A).length=L:=by rw[atL_len HLN.out,←HN.out];exact HL.out.symm
    have hr:=Nw.row (l:=atL P s A) (enc:=eB) (c:=L) (g:=q) (w:=wr) (f:=fun j=>.bool (decide (j≤x)&&(atL P s A).getD j false)) (by rw[hlen];exact HNW.out) (fun j hj=>by
     have h1:=HXN.out
     have h2:=HL.out
     have h3:j≤x:=by omega
     show Value.bool _=eB _
     rw[getD_at hj];simp[h3])
    rw[hlen] at hr
    exact hr
theorem from_cat (s:List UInt8) (hs:s.length≤60) (x y:HT) (l m:Nat) (f g:List Bool→List Bool) (hx:FrC s x f) (hy:FrC s y g) (lf:∀ B,B.length=s.length+1→(f B).length=s.length+1) (lg:∀ B,B.length=s.length+1→(g B).length=s.length+1):FrC s (.bi 3 l m x y) (fun A=>g (f A)):=by
 intro w lo p va A ht hA hlen
 simp only[HTAt] at ht
 obtain⟨-,px,py,hblk,htx,hty⟩:=ht
 obtain⟨b1,o1,c1,hva,-⟩:=hA.nonnil (by omega)
 obtain⟨iB,hiB,hzB,hz1B,hz2B⟩:=info_parts Tryz.infoQB
 obtain⟨L,hL⟩:∃ L,L=A.length:=⟨_,rfl⟩
 have hmk:=fun w0=>make_eq Tryz.underlying30 hiB hzB hz1B hz2B L (by omega) (by unfold maxLen;omega) w0
 have HP:Hid (∀ W,Below w.heap.size w W→W.heap[p]?=some (trB 3 l m (some ⟨px,0,none⟩) (some ⟨py,0,none⟩))):=fun W hb=>by rw[hb.block p (some_lt hblk)];exact hblk
 have HRA:Hid (RowE eB w va A):=hA
 have HLN:Hid (A.length=s.length+1):=hlen
 have HS6:Hid (s.length≤60):=hs
 obtain⟨sb,hsb⟩:∃ sb,sb=ba s:=⟨_,rfl⟩
 have HSZ:Hid (sb.size=s.length):=by show _=_;rw[hsb,ba_size]
 have HX:Hid (∀ W B v,Below w.heap.size w W→RowE eB W v B→B.length=s.length+1→Calls Tryz.prog 110 #[.pointer (some ⟨px,0,none⟩),.string sb,v] W fun e w'=>∃ v',e=.returned v'∧RowE eB w' v' (f B)∧(f B).length=s.length+1∧Below W.heap.size W w'):=fun W B v hW hv hl=>by
  rw[hsb]
  refine(hx W lo px v B (htx.below hW) hv hl).mono ?_
  rintro e w' ⟨v',h1,h2,h3⟩
  exact⟨v',h1,h2,lf B hl,h3⟩
 have HY:Hid (∀ W B v,Below w.heap.size w W→RowE eB W v B→B.length=s.length+1→Calls Tryz.prog 110 #[.pointer (some ⟨py,0,none⟩),.string sb,v] W fun e w'=>∃ v',e=.returned v'∧RowE eB w' v' (g B)∧(g B).length=s.length+1∧Below W.heap.size W w'):=fun W B v hW hv hl=>by
  rw[hsb]
  refine(hy W lo py v B (hty.below hW) hv hl).mono ?_
  rintro e w' ⟨v',h1,h2,h3⟩
  exact⟨v',h1,h2,lg B hl,h3⟩
 rw[←hsb]
 rw[←hL] at hva
 subst hva
 obtain⟨p0,p1,p2,p3,p4⟩:=box5 hblk
 clear hA hlen hblk hs hsb hL
 go_enter Tryz.func110,Tryz.ntmps110
 go_upto_region 2 with(fail)
 obtain⟨w1,hw1⟩:∃ w1,w1=w.alloc (.cells (mkA L (.bool false)) 4):=⟨_,rfl⟩
 rw[←hw1]
 have HB1:Hid (Below w.heap.size w w1):=by rw[hw1];exact(Below.refl _ _).alloc (Nat.le_refl _) _
 clear hw1 hmk p0 p1 p2 p3 p4
 obtain⟨p0,p1,p2,p3,p4⟩:=box5 (HP.out w1 HB1.out)
 go_upto_region 15 with(fail)
 go_region_held3 (fun w'=>w'.cell? ⟨p,3,none⟩=some (.pointer (some ⟨px,0,none⟩))∧w'.cell? ⟨p,4,none⟩=some (.pointer (some ⟨py,0,none⟩))) (go_keep)
  (first|(have:=hmark;go_at_call 110;refine(HY.out _ _ _ HB3.out HR3.out HL3.out).mono ?_;rintro e w4 ⟨v4,rfl,hr4,hl4,hb4⟩;have HB4:Hid (Below w.heap.size w w4):=HB3.out.trans (hb4.mono HB3.out.size);have HR4:Hid (RowE eB w4 v4 (g (f A))):=hr4;obtain⟨-,-,-,z3,z4⟩:=box5 (HP.out w4 HB4.out);clear hr4 hl4 hb4)|(go_at_call 110;refine(HX.out _ _ _ HB1.out.drew (HRA.out.below HB1.out.drew) HLN.out).mono ?_;rintro e w3 ⟨v3,rfl,hr3,hl3,hb3⟩;have hmark:True:=trivial;have HB3:Hid (Below w.heap.size w w3):=HB1.out.drew.trans (hb3.mono HB1.out.size);have HR3:Hid (RowE eB w3 v3 (f A)):=hr3;have HL3:Hid ((f A).length=s.length+1):=hl3;obtain⟨-,-,-,y3,y4⟩:=box5 (HP.out w3 HB3.out);clear hr3 hl3 hb3))
 go_wp2
 go_ret
 exact⟨_,rfl,HR4.out,HB4.out⟩
theorem from_alt (s:List UInt8) (hs:s.length≤60) (x y:HT) (l m:Nat) (f g:List Bool→List Bool) (hx:FrC s x f) (hy:FrC s y g) (lf:∀ B,B.length=s.length+1→(f B).length=s.length+1) (lg:∀ B,B.length=s.length+1→(g B).length=s.length+1):FrC s (.bi 4 l m x y) (fun A=>eiL (f A) (g A)):=by
 intro w lo p va A ht hA hlen
 simp only[HTAt] at ht
 obtain⟨-,px,py,hblk,htx,hty⟩:=ht
 obtain⟨b1,o1,c1,hva,-⟩:=hA.nonnil (by omega)
 obtain⟨iB,hiB,hzB,hz1B,hz2B⟩:=info_parts Tryz.infoQB
 obtain⟨L,hL⟩:∃ L,L=A.length:=⟨_,rfl⟩
 have hmk:=fun w0=>make_eq Tryz.underlying30 hiB hzB hz1B hz2B L (by omega) (by unfold maxLen;omega) w0
 have HP:Hid (∀ W,Below w.heap.size w W→W.heap[p]?=some (trB 4 l m (some ⟨px,0,none⟩) (some ⟨py,0,none⟩))):=fun W hb=>by rw[hb.block p (some_lt hblk)];exact hblk
 have HRA:Hid (RowE eB w va A):=hA
 have HLN:Hid (A.length=s.length+1):=hlen
 have HS6:Hid (s.length≤60):=hs
 obtain⟨sb,hsb⟩:∃ sb,sb=ba s:=⟨_,rfl⟩
 have HSZ:Hid (sb.size=s.length):=by show _=_;rw[hsb,ba_size]
 have HX:Hid (∀ W B v,Below w.heap.size w W→RowE eB W v B→B.length=s.length+1→Calls Tryz.prog 110 #[.pointer (some ⟨px,0,none⟩),.string sb,v] W fun e w'=>∃ v',e=.returned v'∧RowE eB w' v' (f B)∧(f B).length=s.length+1∧Below W.heap.size W w'):=fun W B v hW hv hl=>by
  rw[hsb]
  refine(hx W lo px v B (htx.below hW) hv hl).mono ?_
  rintro e w' ⟨v',h1,h2,h3⟩
  exact⟨v',h1,h2,lf B hl,h3⟩
 have HY:Hid (∀ W B v,Below w.heap.size w W→RowE eB W v B→B.length=s.length+1→Calls Tryz.prog 110 #[.pointer (some ⟨py,0,none⟩),.string sb,v] W fun e w'=>∃ v',e=.returned v'∧RowE eB w' v' (g B)∧(g B).length=s.length+1∧Below W.heap.size W w'):=fun W B v hW hv hl=>by
  rw[hsb]
  refine(hy W lo py v B (hty.below hW) hv hl).mono ?_
  rintro e w' ⟨v',h1,h2,h3⟩
  exact⟨v',h1,h2,lg B hl,h3⟩
 rw[←hsb]
 rw[←hL] at hva
 subst hva
 obtain⟨p0,p1,p2,p3,p4⟩:=box5 hblk
 clear hA hlen hblk hs hsb hL
 go_enter Tryz.func110,Tryz.ntmps110
 go_upto_region 2 with(fail)
 obtain⟨w1,hw1⟩:∃ w1,w1=w.alloc (.cells (mkA L (.bool false)) 4):=⟨_,rfl⟩
 rw[←hw1]
 have HB1:Hid (Below w.heap.size w w1):=by rw[hw1];exact(Below.refl _ _).alloc (Nat.le_refl _) _
 clear hw1 hmk p0 p1 p2 p3 p4
 obtain⟨p0,p1,p2,p3,p4⟩:=box5 (HP.out w1 HB1.out)
 have HEI:Hid (∀ W va vb B C,RowE eB W va B→RowE eB W vb C→B.length=s.length+1→C.length=s.length+1→Calls Tryz.prog 163 #[va,vb] W fun e w'=>∃ v,e=.returned v∧RowE eB w' v (eiL B C)∧Below W.heap.size W w'):=fun W va vb B C h1 h2 h3 h4=>either_any W va vb B C h1 h2 (by omega) (by have:=HS6.out;omega) (by omega)
 go_upto_region 17 with(fail)
 go_region_held3 (fun w'=>w'.cell? ⟨p,3,none⟩=some (.pointer (some ⟨px,0,none⟩))∧w'.cell? ⟨p,4,none⟩=some (.pointer (some ⟨py,0,none⟩))) (go_keep)
  (first|(go_at_call 163;refine(HEI.out _ _ _ _ _ HR34.out HR4.out HL3.out HL4.out).mono ?_;rintro e w5 ⟨v5,rfl,hr5,hb5⟩;have HB5:Hid (Below w.heap.size w w5):=HB4.out.trans (hb5.mono HB4.out.size);have HR5:Hid (RowE eB w5 v5 (eiL (f A) (g A))):=hr5;obtain⟨-,-,-,t3,t4⟩:=box5 (HP.out w5 HB5.out);clear hr5 hb5)|(have:=hmark;go_at_call 110;refine(HY.out _ _ _ HB3.out HRA3.out HLN.out).mono ?_;rintro e w4 ⟨v4,rfl,hr4,hl4,hb4⟩;have HB4:Hid (Below w.heap.size w w4):=HB3.out.trans (hb4.mono HB3.out.size);have HR4:Hid (RowE eB w4 v4 (g A)):=hr4;have HR34:Hid (RowE eB w4 v3 (f A)):=HR3.out.below hb4;have HL4:Hid ((g A).length=s.length+1):=hl4;obtain⟨-,-,-,z3,z4⟩:=box5 (HP.out w4 HB4.out);clear hr4 hl4 hb4)|(go_at_call 110;refine(HX.out _ _ _ HB1.out.drew (HRA.out.below HB1.out.drew) HLN.out).mono ?_;rintro e w3 ⟨v3,rfl,hr3,hl3,hb3⟩;have hmark:True:=trivial;have HB3:Hid (Below w.heap.size w w3):=HB1.out.drew.trans (hb3.mono HB1.out.size);have HRA3:Hid (RowE eB w3 (.slice (some ⟨b1,o1,none⟩) L c1) A):=HRA.out.below HB3.out;have HR3:Hid (RowE eB w3 v3 (f A)):=hr3;have HL3:Hid ((f A).length=s.length+1):=hl3;obtain⟨-,-,-,y3,y4⟩:=box5 (HP.out w3 HB3.out);clear hr3 hl3 hb3))
 go_wp2
 go_ret
 exact⟨_,rfl,HR5.out,HB5.out⟩
theorem from_opt (s:List UInt8) (hs:s.length≤60) (x:HT) (l m:Nat) (hl:l≤2) (hm:m≤2) (f:List Bool→List Bool) (hx:FrC s x f) (lf:∀ B,B.length=s.length+1→(f B).length=s.length+1):FrC s (.un 6 l m x) (fun A=>eiL A (f A)):=by
 intro w lo p va A ht hA hlen
 simp only[HTAt] at ht
 obtain⟨-,px,hblk,htx⟩:=ht
 obtain⟨b1,o1,c1,hva,-⟩:=hA.nonnil (by omega)
 obtain⟨iB,hiB,hzB,hz1B,hz2B⟩:=info_parts Tryz.infoQB
 obtain⟨L,hL⟩:∃ L,L=A.length:=⟨_,rfl⟩
 have hmk:=fun w0=>make_eq Tryz.underlying30 hiB hzB hz1B hz2B L (by omega) (by unfold maxLen;omega) w0
 have HP:Hid (∀ W,Below w.heap.size w W→W.heap[p]?=some (trB 6 l m (some ⟨px,0,none⟩) none)):=fun W hb=>by rw[hb.block p (some_lt hblk)];exact hblk
 have HRA:Hid (RowE eB w va A):=hA
 have HLN:Hid (A.length=s.length+1):=hlen
 have HS6:Hid (s.length≤60):=hs
 obtain⟨sb,hsb⟩:∃ sb,sb=ba s:=⟨_,rfl⟩
 have HSZ:Hid (sb.size=s.length):=by show _=_;rw[hsb,ba_size]
 have HX:Hid (∀ W B v,Below w.heap.size w W→RowE eB W v B→B.length=s.length+1→Calls Tryz.prog 110 #[.pointer (some ⟨px,0,none⟩),.string sb,v] W fun e w'=>∃ v',e=.returned v'∧RowE eB w' v' (f B)∧(f B).length=s.length+1∧Below W.heap.size W w'):=fun W B v hW hv hl=>by
  rw[hsb]
  refine(hx W lo px v B (htx.below hW) hv hl).mono ?_
  rintro e w' ⟨v',h1,h2,h3⟩
  exact⟨v',h1,h2,lf B hl,h3⟩
 rw[←hsb]
 rw[←hL] at hva
 subst hva
 obtain⟨p0,p1,p2,p3,p4⟩:=box5 hblk
 clear hA hlen hblk hs hsb hL
 go_enter Tryz.func110,Tryz.ntmps110
 go_upto_region 2 with(fail)
 obtain⟨w1,hw1⟩:∃ w1,w1=w.alloc (.cells (mkA L (.bool false)) 4):=⟨_,rfl⟩
 rw[←hw1]
 have HB1:Hid (Below w.heap.size w w1):=by rw[hw1];exact(Below.refl _ _).alloc (Nat.le_refl _) _
 clear hw1 hmk p0 p1 p2 p3 p4
 obtain⟨p0,p1,p2,p3,p4⟩:=box5 (HP.out w1 HB1.out)
 have HEI:Hid (∀ W va vb B C,RowE eB W va B→RowE eB W vb C→B.length=s.length+1→C.length=s.length+1→Calls Tryz.prog 163 #[va,vb] W fun e w'=>∃ v,e=.returned v∧RowE eB w' v (eiL B C)∧Below W.heap.size W w'):=fun W va vb B C h1 h2 h3 h4=>either_any W va vb B C h1 h2 (by omega) (by have:=HS6.out;omega) (by omega)
 go_wp2_with (first|(go_at_call 163;refine(HEI.out _ _ _ _ _ HRA3.out HR3.out HLN.out HL3.out).mono ?_;rintro e w5 ⟨v5,rfl,hr5,hb5⟩;have HB5:Hid (Below w.heap.size w w5):=HB3.out.trans (hb5.mono HB3.out.size);have HR5:Hid (RowE eB w5 v5 (eiL A (f A))):=hr5;clear hr5 hb5)|(go_at_call 110;refine(HX.out _ _ _ HB1.out (HRA.out.below HB1.out) HLN.out).mono ?_;rintro e w3 ⟨v3,rfl,hr3,hl3,hb3⟩;have HB3:Hid (Below w.heap.size w w3):=HB1.out.trans (hb3.mono HB1.out.size);have HRA3:Hid (RowE eB w3 (.slice (some ⟨b1,o1,none⟩) L c1) A):=HRA.out.below HB3.out;have HR3:Hid (RowE eB w3 v3 (f A)):=hr3;have HL3:Hid ((f A).length=s.length+1):=hl3;clear hr3 hl3 hb3))
 go_ret
 exact⟨_,rfl,HR5.out,HB5.out⟩
def itB (h:List Bool→List Bool):Nat→List Bool→List Bool
 |0,A=>A
 |n+1,A=>h (itB h n A)
def reO (f:List Bool→List Bool):Nat→List Bool→List Bool×List Bool
 |0,B=>(B,B)
 |j+1,B=>(eiL (reO f j B).1 (f (reO f j B).2),f (reO f j B).2)
theorem from_star (s:List UInt8) (hs:s.length≤60) (x:HT) (l m:Nat) (hl:l≤2) (hm:m≤2) (f:List Bool→List Bool) (hx:FrC s x f) (lf:∀ B,B.length=s.length+1→(f B).length=s.length+1):FrC s (.un 5 l m x) (fun A=>itB (fun o=>eiL o (f o)) (s.length+1) A):=by
 intro w lo p va A ht hA hlen
 simp only[HTAt] at ht
 obtain⟨-,px,hblk,htx⟩:=ht
 obtain⟨b1,o1,c1,hva,-⟩:=hA.nonnil (by omega)
 obtain⟨iB,hiB,hzB,hz1B,hz2B⟩:=info_parts Tryz.infoQB
 obtain⟨L,hL⟩:∃ L,L=A.length:=⟨_,rfl⟩
 have hmk:=fun w0=>make_eq Tryz.underlying30 hiB hzB hz1B hz2B L (by omega) (by unfold maxLen;omega) w0
 have HP:Hid (∀ W,Below w.heap.size w W→W.heap[p]?=some (trB 5 l m (some ⟨px,0,none⟩) none)):=fun W hb=>by rw[hb.block p (some_lt hblk)];exact hblk
 have HRA:Hid (RowE eB w va A):=hA
 have HLN:Hid (A.length=s.length+1):=hlen
 have HS6:Hid (s.length≤60):=hs
 obtain⟨sb,hsb⟩:∃ sb,sb=ba s:=⟨_,rfl⟩
 have HSZ:Hid (sb.size=s.length):=by show _=_;rw[hsb,ba_size]
 have HX:Hid (∀ W B v,Below w.heap.size w W→RowE eB W v B→B.length=s.length+1→Calls Tryz.prog 110 #[.pointer (some ⟨px,0,none⟩),.string sb,v] W fun e w'=>∃ v',e=.returned v'∧RowE eB w' v' (f B)∧(f B).length=s.length+1∧Below W.heap.size W w'):=fun W B v hW hv hl=>by
  rw[hsb]
  refine(hx W lo px v B (htx.below hW) hv hl).mono ?_
  rintro e w' ⟨v',h1,h2,h3⟩
  exact⟨v',h1,h2,lf B hl,h3⟩
 rw[←hsb]
 rw[←hL] at hva
 subst hva
 obtain⟨p0,p1,p2,p3,p4⟩:=box5 hblk
 clear hA hlen hblk hs hsb hL
 go_enter Tryz.func110,Tryz.ntmps110
 go_upto_region 2 with(fail)
 obtain⟨w1,hw1⟩:∃ w1,w1=w.alloc (.cells (mkA L (.bool false)) 4):=⟨_,rfl⟩
 rw[←hw1]
 have HB1:Hid (Below w.heap.size w w1):=by rw[hw1];exact(Below.refl _ _).alloc (Nat.le_refl _) _
 clear hw1 hmk p0 p1 p2 p3 p4
 obtain⟨p0,p1,p2,p3,p4⟩:=box5 (HP.out w1 HB1.out)
 have HEI:Hid (∀ W va vb B C,RowE eB W va B→RowE eB W vb C→B.length=s.length+1→C.length=s.length+1→Calls Tryz.prog 163 #[va,vb] W fun e w'=>∃ v,e=.returned v∧RowE eB w' v (eiL B C)∧Below W.heap.size W w'):=fun W va vb B C h1 h2 h3 h4=>either_any W va vb B C h1 h2 (by omega) (by have:=HS6.out;omega) (by omega)
 have hsz:=HSZ.out
 have hs6:=HS6.out
 obtain⟨n,hn⟩:∃ n,n=sb.size:=⟨_,rfl⟩
 have hbz:sb.size=n:=hn.symm
 have HNS:Hid (n=s.length):=by show _=_;omega
 have hn6:n≤60:=by omega
 clear hsz hs6 hn
 go_upto_region 23 with(fail)
 clear p0 p1 p2 p3 p4
 go_loopw [7,10] (fun o i wr=>∃ x:Nat,i=.int .i64 x∧x≤n+1∧RowE eB wr o (itB (fun o=>eiL o (f o)) x A)∧(itB (fun o=>eiL o (f o)) x A).length=s.length+1∧Below w.heap.size w wr) (fun _ i _=>n+1-(intOf i).toNat)
 case atStart=>exact⟨0,rfl,by omega,HRA.out.below HB1.out,HLN.out,HB1.out⟩
 case round=>
  obtain⟨x,rfl,hx,hrw,hln,hbl⟩:=hrel
  have HRW:Hid _:=hrw
  have HLX:Hid _:=hln
  have HBL:Hid (Below w.heap.size w wr):=hbl
  obtain⟨q0,q1,q2,q3,q4⟩:=box5 (HP.out wr hbl)
  generalize hO:itB (fun o=>eiL o (f o)) x A=O at *
  have HO:Hid (itB (fun o=>eiL o (f o)) (x+1) A=eiL O (f O)):=by show _=_;rw[itB,hO]
  have HOE:Hid (itB (fun o=>eiL o (f o)) x A=O):=hO
  have HRO:Hid (RowE eB wr u7 O):=HRW.out
  have HLO:Hid (O.length=s.length+1):=HLX.out
  clear hrw hln hbl HRW HLX hO
  by_cases hxl:x≤n
  ·have hxI:(x:Int)≤n:=by omega
   go_wp2_with (first|(go_at_call 163;refine(HEI.out _ _ _ _ _ HRO3.out HR3.out HLO.out HL3.out).mono ?_;rintro e w5 ⟨v5,rfl,hr5,hb5⟩;have HB5:Hid (Below w.heap.size w w5):=HB3.out.trans (hb5.mono HB3.out.size);have HR5:Hid (RowE eB w5 v5 (eiL O (f O))):=hr5;clear hr5 hb5)|(go_at_call 110;refine(HX.out _ _ _ HBL.out HRO.out HLO.out).mono ?_;rintro e w3 ⟨v3,rfl,hr3,hl3,hb3⟩;have HB3:Hid (Below w.heap.size w w3):=HBL.out.trans (hb3.mono HBL.out.size);have HRO3:Hid (RowE eB w3 u7 O):=HRO.out.below hb3;have HR3:Hid (RowE eB w3 v3 (f O)):=hr3;have HL3:Hid ((f O).length=s.length+1):=hl3;clear hr3 hl3 hb3))
   go_roundw
   case rel=>exact⟨x+1,by go_num,by omega,by rw[HO.out];exact HR5.out,by rw[HO.out,eiL_len (by rw[HL3.out,HLO.out])];exact HLO.out,HB5.out⟩
   case measure=>simp[intOf]<;>omega
  ·have hxI:¬(x:Int)≤n:=by omega
   have HXE:Hid (x=s.length+1):=by show _=_;have:=HNS.out;omega
   go_wp2
   go_ret
   refine⟨_,rfl,?_,HBL.out⟩
   show RowE eB wr u7 (itB (fun o=>eiL o (f o)) (s.length+1) A)
   rw[←HXE.out,HOE.out]
   exact HRO.out
theorem from_rep (s:List UInt8) (hs:s.length≤60) (x:HT) (l m:Nat) (hl:l≤2) (hm:m≤2) (f:List Bool→List Bool) (hx:FrC s x f) (lf:∀ B,B.length=s.length+1→(f B).length=s.length+1):FrC s (.un 7 l m x) (fun A=>(reO f m (itB f l A)).1):=by
 intro w lo p va A ht hA hlen
 simp only[HTAt] at ht
 obtain⟨-,px,hblk,htx⟩:=ht
 obtain⟨b1,o1,c1,hva,-⟩:=hA.nonnil (by omega)
 obtain⟨iB,hiB,hzB,hz1B,hz2B⟩:=info_parts Tryz.infoQB
 obtain⟨L,hL⟩:∃ L,L=A.length:=⟨_,rfl⟩
 have hmk:=fun w0=>make_eq Tryz.underlying30 hiB hzB hz1B hz2B L (by omega) (by unfold maxLen;omega) w0
 have HP:Hid (∀ W,Below w.heap.size w W→W.heap[p]?=some (trB 7 l m (some ⟨px,0,none⟩) none)):=fun W hb=>by rw[hb.block p (some_lt hblk)];exact hblk
 have HRA:Hid (RowE eB w va A):=hA
 have HLN:Hid (A.length=s.length+1):=hlen
 have HS6:Hid (s.length≤60):=hs
 obtain⟨sb,hsb⟩:∃ sb,sb=ba s:=⟨_,rfl⟩
 have HSZ:Hid (sb.size=s.length):=by show _=_;rw[hsb,ba_size]
 have HX:Hid (∀ W B v,Below w.heap.size w W→RowE eB W v B→B.length=s.length+1→Calls Tryz.prog 110 #[.pointer (some ⟨px,0,none⟩),.string sb,v] W fun e w'=>∃ v',e=.returned v'∧RowE eB w' v' (f B)∧(f B).length=s.length+1∧Below W.heap.size W w'):=fun W B v hW hv hl=>by
  rw[hsb]
  refine(hx W lo px v B (htx.below hW) hv hl).mono ?_
  rintro e w' ⟨v',h1,h2,h3⟩
  exact⟨v',h1,h2,lf B hl,h3⟩
 rw[←hsb]
 rw[←hL] at hva
 subst hva
 obtain⟨p0,p1,p2,p3,p4⟩:=box5 hblk
 clear hA hlen hblk hs hsb hL
 go_enter Tryz.func110,Tryz.ntmps110
 go_upto_region 2 with(fail)
 obtain⟨w1,hw1⟩:∃ w1,w1=w.alloc (.cells (mkA L (.bool false)) 4):=⟨_,rfl⟩
 rw[←hw1]
 have HB1:Hid (Below w.heap.size w w1):=by rw[hw1];exact(Below.refl _ _).alloc (Nat.le_refl _) _
 clear hw1 hmk p0 p1 p2 p3 p4
 obtain⟨p0,p1,p2,p3,p4⟩:=box5 (HP.out w1 HB1.out)
 have HEI:Hid (∀ W va vb B C,RowE eB W va B→RowE eB W vb C→B.length=s.length+1→C.length=s.length+1→Calls Tryz.prog 163 #[va,vb] W fun e w'=>∃ v,e=.returned v∧RowE eB w' v (eiL B C)∧Below W.heap.size W w'):=fun W va vb B C h1 h2 h3 h4=>either_any W va vb B C h1 h2 (by omega) (by have:=HS6.out;omega) (by omega)
 go_upto_region 29 with(fail)
 clear p0 p1 p2 p3 p4
 go_loopw [7,11] (fun o i wr=>∃ x:Nat,i=.int .i64 x∧x≤l∧RowE eB wr o (itB f x A)∧(itB f x A).length=s.length+1∧Below w.heap.size w wr) (fun _ i _=>l-(intOf i).toNat)
 case atStart=>exact⟨0,rfl,by omega,HRA.out.below HB1.out,HLN.out,HB1.out⟩
 case round=>
  obtain⟨x,rfl,hx,hrw,hln,hbl⟩:=hrel
  have HRW:Hid _:=hrw
  have HLX:Hid _:=hln
  have HBL:Hid (Below w.heap.size w wr):=hbl
  obtain⟨q0,q1,q2,q3,q4⟩:=box5 (HP.out wr hbl)
  generalize hO:itB f x A=O at *
  have HO:Hid (itB f (x+1) A=f O):=by show _=_;rw[itB,hO]
  have HOE:Hid (itB f x A=O):=hO
  have HRO:Hid (RowE eB wr u7 O):=HRW.out
  have HLO:Hid (O.length=s.length+1):=HLX.out
  clear hrw hln hbl HRW HLX hO
  by_cases hxl:x<l
  ·have hxI:(x:Int)<l:=by omega
   go_wp2_with (go_at_call 110;refine(HX.out _ _ _ HBL.out HRO.out HLO.out).mono ?_;rintro e w3 ⟨v3,rfl,hr3,hl3,hb3⟩;have HB3:Hid (Below w.heap.size w w3):=HBL.out.trans (hb3.mono HBL.out.size);have HR3:Hid (RowE eB w3 v3 (f O)):=hr3;have HL3:Hid ((f O).length=s.length+1):=hl3;clear hr3 hl3 hb3)
   go_roundw
   case rel=>exact⟨x+1,by go_num,by omega,by rw[HO.out];exact HR3.out,by rw[HO.out];exact HL3.out,HB3.out⟩
   case measure=>simp[intOf]<;>omega
  ·have hxI:¬(x:Int)<l:=by omega
   have HXE:Hid (x=l):=by show _=_;omega
   have HOL:Hid (itB f l A=O):=by show _=_;rw[←HXE.out];exact HOE.out
   go_upto_region 34 with(fail)
   clear q0 q1 q2 q3 q4 hxI hxl hx
   rename World=>wa
   have HBA:Hid (Below w.heap.size w wa):=HBL.out
   have HROA:Hid (RowE eB wa u7 O):=HRO.out
   clear HBL HRO HO HOE HXE
   go_loopw [7,12,13] (fun o nw i wr=>∃ y:Nat,i=.int .i64 y∧y≤m∧RowE eB wr o (reO f y O).1∧RowE eB wr nw (reO f y O).2∧(reO f y O).1.length=s.length+1∧(reO f y O).2.length=s.length+1∧Below w.heap.size w wr) (fun _ _ i _=>m-(intOf i).toNat)
   case atStart=>exact⟨0,rfl,by omega,HROA.out,HROA.out,HLO.out,HLO.out,HBA.out⟩
   case round=>
    obtain⟨y,rfl,hy,hr1,hr2,hl1,hl2,hbl⟩:=hrel
    have HBL:Hid (Below w.heap.size w wr):=hbl
    obtain⟨q0,q1,q2,q3,q4⟩:=box5 (HP.out wr hbl)
    have H1:Hid _:=hr1
    have H2:Hid _:=hr2
    have HL1:Hid _:=hl1
    have HL2:Hid _:=hl2
    generalize hP:reO f y O=PP at *
    have HPE:Hid (reO f y O=PP):=hP
    have HPN:Hid (reO f (y+1) O=(eiL PP.1 (f PP.2),f PP.2)):=by show _=_;rw[reO,hP]
    have HR1:Hid (RowE eB wr u7 PP.1):=H1.out
    have HR2:Hid (RowE eB wr u12 PP.2):=H2.out
    have HN1:Hid (PP.1.length=s.length+1):=HL1.out
    have HN2:Hid (PP.2.length=s.length+1):=HL2.out
    clear hr1 hr2 hl1 hl2 hbl H1 H2 HL1 HL2 hP
    by_cases hyl:y<m
    ·have hyI:(y:Int)<m:=by omega
     go_wp2_with (first|(go_at_call 163;refine(HEI.out _ _ _ _ _ HR13.out HR3.out HN1.out HL3.out).mono ?_;rintro e w5 ⟨v5,rfl,hr5,hb5⟩;have HB5:Hid (Below w.heap.size w w5):=HB3.out.trans (hb5.mono HB3.out.size);have HR5:Hid (RowE eB w5 v5 (eiL PP.1 (f PP.2))):=hr5;have HR35:Hid (RowE eB w5 v3 (f PP.2)):=HR3.out.below hb5;clear hr5 hb5)|(go_at_call 110;refine(HX.out _ _ _ HBL.out HR2.out HN2.out).mono ?_;rintro e w3 ⟨v3,rfl,hr3,hl3,hb3⟩;have HB3:Hid (Below w.heap.size w w3):=HBL.out.trans (hb3.mono HBL.out.size);have HR3:Hid (RowE eB w3 v3 (f PP.2)):=hr3;have HR13:Hid (RowE eB w3 u7 PP.1):=HR1.out.below hb3;have HL3:Hid ((f PP.2).length=s.length+1):=hl3;clear hr3 hl3 hb3))
     go_roundw
     case rel=>exact⟨y+1,by go_num,by omega,by rw[HPN.out];exact HR5.out,by rw[HPN.out];exact HR35.out,by rw[HPN.out];show(eiL _ _).length=_;rw[eiL_len (by rw[HL3.out,HN1.out])];exact HN1.out,by rw[HPN.out];exact HL3.out,HB5.out⟩
     case measure=>simp[intOf]<;>omega
    ·have hyI:¬(y:Int)<m:=by omega
     have HYE:Hid (y=m):=by show _=_;omega
     go_wp2
     go_ret
     refine⟨_,rfl,?_,HBL.out⟩
     show RowE eB wr u7 (reO f m (itB f l A)).1
     rw[HOL.out,←HYE.out,HPE.out]
     exact HR1.out
def frL (s:List UInt8):HT→List Bool→List Bool
 |.lf k l _=>atL (pOf k l) s
 |.bi k _ _ x y=>if k=3 then fun A=>frL s y (frL s x A) else fun A=>eiL (frL s x A) (frL s y A)
 |.un k l m x=>if k=5 then fun A=>itB (fun o=>eiL o (frL s x o)) (s.length+1) A else if k=6 then fun A=>eiL A (frL s x A) else fun A=>(reO (frL s x) m (itB (frL s x) l A)).1
theorem itB_len {n:Nat}{h:List Bool→List Bool} (hh:∀ B,B.length=n→(h B).length=n):∀ j {A:List Bool},A.length=n→(itB h j A).length=n
 |0,A,hA=>hA
 |j+1,A,hA=>hh _ (itB_len hh j hA)
theorem reO_len {n:Nat}{f:List Bool→List Bool} (hf:∀ B,B.length=n→(f B).length=n):∀ j {A:List Bool},A.length=n→(reO f j A).1.length=n∧(reO f j A).2.length=n
 |0,A,hA=>⟨hA,hA⟩
 |j+1,A,hA=>by
  obtain⟨h1,h2⟩:=reO_len hf j hA
  have h3:=hf _ h2
  exact⟨by simp only[reO];rw[eiL_len (by omega)];exact h1,h3⟩
theorem frL_len (s:List UInt8):∀(t:HT) (A:List Bool),A.length=s.length+1→(frL s t A).length=s.length+1
 |.lf k l m,A,h=>atL_len h
 |.bi k l m x y,A,h=>by
  have h1:=frL_len s x A h
  simp only[frL]
  split
  ·exact frL_len s y _ h1
  ·have h2:=frL_len s y A h
   rw[eiL_len (by omega)];exact h1
 |.un k l m x,A,h=>by
  have hf:∀ B:List Bool,B.length=s.length+1→(frL s x B).length=s.length+1:=fun B hB=>frL_len s x B hB
  simp only[frL]
  split
  ·exact itB_len (fun B hB=>by rw[eiL_len (by rw[hf B hB,hB])];exact hB) _ h
  ·split
   ·rw[eiL_len (by rw[hf A h,h])];exact h
   ·exact(reO_len hf m (itB_len hf l h)).1
theorem from_any {s:List UInt8} (hs:s.length≤60):∀ {d:Nat}{t:HT},HTOk d t→FrC s t (frL s t)
 |d,.lf k l m,h=>by
  simp only[HTOk] at h
  exact from_leaf s hs k l m (by omega) h.2.1
 |d+1,.bi k l m x y,h=>by
  simp only[HTOk] at h
  have ix:=from_any hs h.2.2.2.1
  have iy:=from_any hs h.2.2.2.2
  rcases h.1 with rfl|rfl
  ·exact from_cat s hs x y l m (frL s x) (frL s y) ix iy (frL_len s x) (frL_len s y)
  ·exact from_alt s hs x y l m (frL s x) (frL s y) ix iy (frL_len s x) (frL_len s y)
 |d+1,.un k l m x,h=>by
  simp only[HTOk] at h
  have ix:=from_any hs h.2.2.2
  rcases h.1 with rfl|rfl|rfl
  ·exact from_star s hs x l m h.2.1 h.2.2.1 (frL s x) ix (frL_len s x)
  ·exact from_opt s hs x l m h.2.1 h.2.2.1 (frL s x) ix (frL_len s x)
  ·exact from_rep s hs x l m h.2.1 h.2.2.1 (frL s x) ix (frL_len s x)
 |0,.bi k l m x y,h=>by simp[HTOk] at h
 |0,.un k l m x,h=>by simp[HTOk] at h
def bySet (s:List UInt8) (L:Lng) (A:Nat→Prop) (i:Nat):Prop:=∃ j,j≤i∧A j∧L (((s.map UInt8.toNat).take i).drop j)
def setL (A:List Bool) (i:Nat):Prop:=A.getD i false=true
theorem setL_ei {a b:List Bool} (h:b.length=a.length) (i:Nat):setL (eiL a b) i↔setL a i∨setL b i:=by
 unfold setL
 rcases Nat.lt_or_ge i a.length with hi|hi
 ·rw[getD_at (by rw[eiL_len h];exact hi),eiL_at h hi,getD_at hi,getD_at (by omega)];simp
 ·have h1:(eiL a b).getD i false=false:=by rw[List.getD_eq_getElem?_getD,List.getElem?_eq_none (by rw[eiL_len h];exact hi)];rfl
  have h2:a.getD i false=false:=by rw[List.getD_eq_getElem?_getD,List.getElem?_eq_none hi];rfl
  have h3:b.getD i false=false:=by rw[List.getD_eq_getElem?_getD,List.getElem?_eq_none (by omega)];rfl
  rw[h1,h2,h3];simp
theorem slice_cat {s:List Nat}{j m i:Nat} (h1:j≤m) (h2:m≤i) (h3:i≤s.length):(s.take i).drop j=(s.take m).drop j++(s.take i).drop m:=by
 have e:s.take m=(s.take i).take m:=by rw[List.take_take,Nat.min_eq_left h2]
 rw[e]
 have h4:(s.take i).length=i:=by simp;omega
 generalize s.take i=t at *
 conv=>lhs;rw[←List.take_append_drop m t]
 rw[List.drop_append_of_le_length (by simp;omega)]
theorem slice_len {s:List Nat}{j i:Nat} (h:i≤s.length):((s.take i).drop j).length=i-j:=by simp;omega
theorem slice_nil {s:List Nat}{i:Nat}:(s.take i).drop i=[]:=List.drop_eq_nil_of_le (by simp;omega)
section
variable {s:List UInt8}
theorem by_cat {L M:Lng}{A:Nat→Prop}{i:Nat} (hi:i≤s.length):bySet s (lCat L M) A i↔bySet s M (bySet s L A) i:=by
 have hi':i≤(s.map UInt8.toNat).length:=by simpa using hi
 constructor
 ·rintro⟨j,h1,h2,u,v,e,h3,h4⟩
  have hl:=congrArg List.length e
  rw[slice_len hi',List.length_append] at hl
  have e2:=slice_cat (s:=s.map UInt8.toNat) (show j≤j+u.length by omega) (show j+u.length≤i by omega) hi'
  rw[e] at e2
  have hlu:(((s.map UInt8.toNat).take (j+u.length)).drop j).length=u.length:=by rw[slice_len (by omega)];omega
  obtain⟨e3,e4⟩:=List.append_inj e2 hlu.symm
  exact⟨j+u.length,by omega,⟨j,by omega,h2,by rw[←e3];exact h3⟩,by rw[←e4];exact h4⟩
 ·rintro⟨m,h1,⟨j,h2,h3,h4⟩,h5⟩
  exact⟨j,by omega,h3,_,_,slice_cat h2 h1 hi',h4,h5⟩
theorem by_alt {L M:Lng}{A:Nat→Prop}{i:Nat}:bySet s (lAlt L M) A i↔bySet s L A i∨bySet s M A i:=by
 constructor
 ·rintro⟨j,h1,h2,h3|h3⟩
  ·exact .inl ⟨j,h1,h2,h3⟩
  ·exact .inr ⟨j,h1,h2,h3⟩
 ·rintro(⟨j,h1,h2,h3⟩|⟨j,h1,h2,h3⟩)
  ·exact⟨j,h1,h2,.inl h3⟩
  ·exact⟨j,h1,h2,.inr h3⟩
theorem by_nil {A:Nat→Prop}{i:Nat} (hi:i≤s.length):bySet s lN A i↔A i:=by
 have hi':i≤(s.map UInt8.toNat).length:=by simpa using hi
 constructor
 ·rintro⟨j,h1,h2,h3⟩
  have:=congrArg List.length h3
  rw[slice_len hi'] at this
  simp at this
  have:j=i:=by omega
  rw[←this];exact h2
 ·exact fun h=>⟨i,Nat.le_refl _,h,slice_nil⟩
theorem by_opt {L:Lng}{A:Nat→Prop}{i:Nat} (hi:i≤s.length):bySet s (lOpt L) A i↔A i∨bySet s L A i:=by
 have:bySet s (lOpt L) A i↔bySet s (lAlt lN L) A i:=Iff.rfl
 rw[this,by_alt,by_nil hi]
theorem by_congr {L:Lng}{A B:Nat→Prop}{i:Nat} (h:∀ j,j≤i→(A j↔B j)):bySet s L A i↔bySet s L B i:=by
 constructor
 ·rintro⟨j,h1,h2,h3⟩;exact⟨j,h1,(h j h1).1 h2,h3⟩
 ·rintro⟨j,h1,h2,h3⟩;exact⟨j,h1,(h j h1).2 h2,h3⟩
end
open Go.RowKit
def ByL (s:List UInt8) (f:List Bool→List Bool) (L:Lng):Prop:=∀ A:List Bool,A.length=s.length+1→(f A).length=s.length+1∧∀ i,i≤s.length→(setL (f A) i↔bySet s L (setL A) i)
theorem by_leaf (s:List UInt8) (P:UInt8→Bool) (S:Nat→Bool) (h:∀ c:UInt8,S c.toNat=P c):ByL s (atL P s) (lS S):=by
 intro A hA
 refine⟨atL_len hA,fun i hi=>?_⟩
 have hi':i≤(s.map UInt8.toNat).length:=by simpa using hi
 constructor
 ·intro q
  cases i with
  |zero=>simp[setL,atL] at q
  |succ i=>
   unfold setL at q
   rw[getD_at (by rw[atL_len hA];omega),atL_at (by omega) (by omega),Bool.and_eq_true] at q
   refine⟨i,by omega,by unfold setL;rw[getD_at (by omega)];exact q.1,s[i].toNat,by rw[h];exact q.2,?_⟩
   have hl:(((s.map UInt8.toNat).take (i+1)).drop i).length=1:=by rw[slice_len hi'];omega
   obtain⟨x,hx⟩:=List.length_eq_one_iff.1 hl
   rw[hx]
   have h0:(((s.map UInt8.toNat).take (i+1)).drop i)[0]'(by omega)=s[i].toNat:=by simp
   simp only[hx,List.getElem_cons_zero] at h0
   rw[h0]
 ·rintro⟨j,h1,h2,b,h3,h4⟩
  have hl:=congrArg List.length h4
  rw[slice_len hi'] at hl
  simp at hl
  obtain⟨k,rfl⟩:∃ k,i=k+1:=⟨i-1,by omega⟩
  have hj:j=k:=by omega
  subst hj
  have h0:(((s.map UInt8.toNat).take (j+1)).drop j)[0]'(by rw[slice_len hi'];omega)=s[j].toNat:=by simp
  simp only[h4,List.getElem_cons_zero] at h0
  unfold setL at h2 ⊢
  rw[getD_at (by omega)] at h2
  rw[getD_at (by rw[atL_len hA];omega),atL_at (by omega) (by omega),h2,←h,←h0,h3];rfl
theorem by_comp {s:List UInt8}{f g:List Bool→List Bool}{L M:Lng} (hf:ByL s f L) (hg:ByL s g M):ByL s (fun A=>g (f A)) (lCat L M):=by
 intro A hA
 obtain⟨l1,f1⟩:=hf A hA
 obtain⟨l2,f2⟩:=hg _ l1
 refine⟨l2,fun i hi=>?_⟩
 rw[f2 i hi,by_cat hi]
 exact by_congr (fun j hj=>f1 j (by omega))
theorem by_or {s:List UInt8}{f g:List Bool→List Bool}{L M:Lng} (hf:ByL s f L) (hg:ByL s g M):ByL s (fun A=>eiL (f A) (g A)) (lAlt L M):=by
 intro A hA
 obtain⟨l1,f1⟩:=hf A hA
 obtain⟨l2,f2⟩:=hg A hA
 have hl:(g A).length=(f A).length:=by omega
 refine⟨by rw[eiL_len hl];exact l1,fun i hi=>?_⟩
 rw[setL_ei hl,f1 i hi,f2 i hi,by_alt]
theorem by_may {s:List UInt8}{f:List Bool→List Bool}{L:Lng} (hf:ByL s f L):ByL s (fun A=>eiL A (f A)) (lOpt L):=by
 intro A hA
 obtain⟨l1,f1⟩:=hf A hA
 have hl:(f A).length=A.length:=by omega
 refine⟨by rw[eiL_len hl];exact hA,fun i hi=>?_⟩
 rw[setL_ei hl,f1 i hi,by_opt hi]
theorem plus_snoc {L:Lng}{u v:List Nat} (h:lOpt (lPlus L) u) (hv:L v):lPlus L (u++v):=by
 rcases h with rfl|h
 ·exact .one hv
 ·induction h with
  |one h=>exact .more h (.one hv)
  |more h g ih=>rw[List.append_assoc];exact .more h ih
section
variable {s:List UInt8}{f:List Bool→List Bool}{L:Lng} (hf:ByL s f L)
include hf
theorem st_len (n:Nat) {A:List Bool} (hA:A.length=s.length+1):(itB (fun o=>eiL o (f o)) n A).length=s.length+1:=
 itB_len (fun B hB=>by rw[eiL_len (by rw[(hf B hB).1,hB])];exact hB) n hA
theorem st_step (n:Nat) {A:List Bool} (hA:A.length=s.length+1) {i:Nat} (hi:i≤s.length):setL (itB (fun o=>eiL o (f o)) (n+1) A) i↔setL (itB (fun o=>eiL o (f o)) n A) i∨bySet s L (setL (itB (fun o=>eiL o (f o)) n A)) i:=by
 have h1:=st_len hf n hA
 obtain⟨h2,h3⟩:=hf _ h1
 show setL (eiL _ _) i↔_
 rw[setL_ei (by omega),h3 i hi]
theorem st_mono {A:List Bool} (hA:A.length=s.length+1) {i:Nat} (hi:i≤s.length) (k:Nat):∀ n,setL (itB (fun o=>eiL o (f o)) k A) i→setL (itB (fun o=>eiL o (f o)) (k+n) A) i
 |0,h=>h
 |n+1,h=>(st_step hf (k+n) hA hi).2 (.inl (st_mono hA hi k n h))
theorem st_sound {A:List Bool} (hA:A.length=s.length+1):∀ n {i:Nat},i≤s.length→setL (itB (fun o=>eiL o (f o)) n A) i→bySet s (lOpt (lPlus L)) (setL A) i
 |0,i,hi,h=>(by_opt hi).2 (.inl h)
 |n+1,i,hi,h=>by
  rcases(st_step hf n hA hi).1 h with h|⟨j,h1,h2,h3⟩
  ·exact st_sound hA n hi h
  ·obtain⟨j0,k1,k2,k3⟩:=st_sound hA n (show j≤s.length by omega) h2
   refine⟨j0,by omega,k2,.inr ?_⟩
   rw[slice_cat k1 h1 (by simpa using hi)]
   exact plus_snoc k3 h3
theorem st_full {A:List Bool} (hA:A.length=s.length+1) {w:List Nat} (hw:lPlus L w):∀ {i j k n:Nat},i≤s.length→j≤i→w=((s.map UInt8.toNat).take i).drop j→i-j≤n→setL (itB (fun o=>eiL o (f o)) k A) j→setL (itB (fun o=>eiL o (f o)) (k+n) A) i:=by
 induction hw with
 | @one w h=>
  intro i j k n hi hj e hn hs
  by_cases hij:j=i
  ·subst hij;exact st_mono hf hA hi k n hs
  ·obtain⟨m,rfl⟩:∃ m,n=1+m:=⟨n-1,by omega⟩
   rw[←Nat.add_assoc]
   exact st_mono hf hA hi (k+1) m ((st_step hf k hA hi).2 (.inr ⟨j,hj,hs,by rw[←e];exact h⟩))
 | @more u v h g ih=>
  intro i j k n hi hj e hn hs
  have hi':i≤(s.map UInt8.toNat).length:=by simpa using hi
  have hl:=congrArg List.length e
  rw[slice_len hi',List.length_append] at hl
  by_cases hu:u.length=0
  ·have:u=[]:=List.length_eq_zero_iff.1 hu
   subst this
   exact ih hi hj (by simpa using e) hn hs
  ·have e2:=slice_cat (s:=s.map UInt8.toNat) (show j≤j+u.length by omega) (show j+u.length≤i by omega) hi'
   rw[←e] at e2
   have hlu:(((s.map UInt8.toNat).take (j+u.length)).drop j).length=u.length:=by rw[slice_len (by omega)];omega
   obtain⟨e3,e4⟩:=List.append_inj e2 hlu.symm
   obtain⟨m,rfl⟩:∃ m,n=1+m:=⟨n-1,by omega⟩
   rw[←Nat.add_assoc]
   exact ih (k:=k+1) hi (show j+u.length≤i by omega) e4 (by omega) ((st_step hf k hA (by omega)).2 (.inr ⟨j,by omega,hs,by rw[←e3];exact h⟩))
theorem by_star:ByL s (fun A=>itB (fun o=>eiL o (f o)) (s.length+1) A) (lOpt (lPlus L)):=by
 intro A hA
 refine⟨st_len hf _ hA,fun i hi=>⟨fun h=>st_sound hf hA _ hi h,?_⟩⟩
 rintro⟨j,h1,h2,h3|h3⟩
 ·have:=congrArg List.length h3
  rw[slice_len (by simpa using hi)] at this
  simp at this
  have hij:j=i:=by omega
  subst hij
  have:=st_mono hf hA hi 0 (s.length+1) h2
  rwa [Nat.zero_add] at this
 ·have:=st_full hf hA h3 (k:=0) (n:=s.length+1) hi h1 rfl (by omega) h2
  rwa [Nat.zero_add] at this
theorem by_pow (R:Lng):∀ l {A:List Bool},A.length=s.length+1→∀ i,i≤s.length→(bySet s (itL (lCat L) l R) (setL A) i↔bySet s R (setL (itB f l A)) i)
 |0,A,_,i,_=>Iff.rfl
 |l+1,A,hA,i,hi=>by
  show bySet s (itL (lCat L) l (lCat L R)) (setL A) i↔_
  rw[by_pow (lCat L R) l hA i hi,by_cat hi]
  have hB:=itB_len (fun B hB=>(hf B hB).1) l hA
  exact by_congr (fun j hj=>((hf _ hB).2 j (by omega)).symm)
theorem by_opts (R:Lng):∀ m {B:List Bool},B.length=s.length+1→∀ i,i≤s.length→(bySet s (itL (fun R=>lOpt (lCat L R)) m R) (setL B) i↔(∃ c,c<m∧setL (itB f c B) i)∨bySet s R (setL (itB f m B)) i)
 |0,B,_,i,_=>by simp[itL,itB]
 |m+1,B,hB,i,hi=>by
  show bySet s (itL (fun R=>lOpt (lCat L R)) m (lOpt (lCat L R))) (setL B) i↔_
  rw[by_opts (lOpt (lCat L R)) m hB i hi,by_opt hi,by_cat hi]
  have hC:=itB_len (fun B hB=>(hf B hB).1) m hB
  rw[by_congr (s:=s) (L:=R) (fun j hj=>((hf _ hC).2 j (show j≤s.length by omega)).symm)]
  show _↔_∨bySet s R (setL (f (itB f m B))) i
  constructor
  ·rintro(⟨c,h1,h2⟩|h|h)
   ·exact .inl ⟨c,by omega,h2⟩
   ·exact .inl ⟨m,by omega,h⟩
   ·exact .inr h
  ·rintro(⟨c,h1,h2⟩|h)
   ·by_cases e:c=m
    ·subst e;exact .inr (.inl h2)
    ·exact .inl ⟨c,by omega,h2⟩
   ·exact .inr (.inr h)
theorem reO_at:∀ m {B:List Bool},B.length=s.length+1→(reO f m B).2=itB f m B∧∀ i,(setL (reO f m B).1 i↔∃ c,c≤m∧setL (itB f c B) i)
 |0,B,_=>⟨rfl,fun i=>⟨fun h=>⟨0,by omega,h⟩,fun⟨c,h1,h2⟩=>by
  have:c=0:=by omega
  subst this;exact h2⟩⟩
 |m+1,B,hB=>by
  obtain⟨h1,h2⟩:=reO_at m hB
  have hl:=reO_len (fun B hB=>(hf B hB).1) m hB
  refine⟨by show f (reO f m B).2=f (itB f m B);rw[h1],fun i=>?_⟩
  show setL (eiL (reO f m B).1 (f (reO f m B).2)) i↔_
  rw[setL_ei (by rw[(hf _ hl.2).1,hl.1]),h2,h1]
  constructor
  ·rintro(⟨c,k1,k2⟩|h)
   ·exact⟨c,by omega,k2⟩
   ·exact⟨m+1,by omega,h⟩
  ·rintro⟨c,k1,k2⟩
   by_cases e:c=m+1
   ·subst e;exact .inr k2
   ·exact .inl ⟨c,by omega,k2⟩
theorem by_rep (l m:Nat):ByL s (fun A=>(reO f m (itB f l A)).1) (itL (lCat L) l (itL (fun R=>lOpt (lCat L R)) m lN)):=by
 intro A hA
 have hB:=itB_len (fun B hB=>(hf B hB).1) l hA
 refine⟨(reO_len (fun B hB=>(hf B hB).1) m hB).1,fun i hi=>?_⟩
 rw[by_pow hf _ l hA i hi,by_opts hf lN m hB i hi,by_nil hi,(reO_at hf m hB).2]
 constructor
 ·rintro⟨c,h1,h2⟩
  by_cases e:c=m
  ·subst e;exact .inr h2
  ·exact .inl ⟨c,by omega,h2⟩
 ·rintro(⟨c,h1,h2⟩|h)
  ·exact⟨c,by omega,h2⟩
  ·exact⟨m,Nat.le_refl _,h⟩
end
theorem frL_by (s:List UInt8):∀ {d:Nat}{t:HT},HTOk d t→ByL s (frL s t) (LK (kt t))
 |d,.lf k l m,h=>by
  simp only[HTOk] at h
  simp only[kt,frL]
  by_cases hk:k≤1
  ·rw[if_pos hk]
   simp only[LK]
   refine by_leaf s _ _ (fun c=>?_)
   have hz:(UInt8.ofNat (97+l)).toNat=97+l:=by simp;omega
   unfold pOf Sx.inSpan
   rw[if_neg (by omega),hz]
   by_cases q:c=UInt8.ofNat (97+l)
   ·rw[q,hz];simp
   ·have h1:c.toNat≠97+l:=fun e=>q (UInt8.toNat_inj.1 (by rw[hz];exact e))
    rw[beq_eq_false_iff_ne.2 q]
    simp;omega
  ·rw[if_neg hk]
   simp only[LK]
   refine by_leaf s _ _ (fun c=>?_)
   unfold pOf nS Sx.orS Sx.inSpan
   rw[if_pos (by omega)]
   by_cases q:c=97
   ·subst q;rfl
   ·have h1:c.toNat≠97:=fun e=>q (UInt8.toNat_inj.1 e)
    rw[bne_iff_ne.2 q]
    simp;omega
 |d+1,.bi k l m x y,h=>by
  simp only[HTOk] at h
  have ix:=frL_by s h.2.2.2.1
  have iy:=frL_by s h.2.2.2.2
  rcases h.1 with rfl|rfl
  ·exact by_comp (f:=frL s x) (g:=frL s y) ix iy
  ·exact by_or (f:=frL s x) (g:=frL s y) ix iy
 |d+1,.un k l m x,h=>by
  simp only[HTOk] at h
  have ix:=frL_by s h.2.2.2
  rcases h.1 with rfl|rfl|rfl
  ·exact by_star ix
  ·exact by_may ix
  ·have e:LK (kt (.un 7 l m x))=itL (lCat (LK (kt x))) l (itL (fun R=>lOpt (lCat (LK (kt x)) R)) m lN):=by
    simp only[kt,show ¬(7=5) by omega,show ¬(7=6) by omega,if_false,LK,cnt,List.map_cons,List.map_nil,List.reverse_cons,List.reverse_nil,List.nil_append,cntsL,cntL]
    rw[if_neg (by decide),if_neg (by decide),if_neg (by decide),if_neg (by omega)]
    congr 1
    congr 1
    omega
   rw[e]
   exact by_rep ix l m
 |0,.bi k l m x y,h=>by simp[HTOk] at h
 |0,.un k l m x,h=>by simp[HTOk] at h
open Go.RowKit
def begL (f:Bool) (n:Nat):List Bool:=(List.range (n+1)).map fun i=>i==0||!f
theorem begL_len (f:Bool) (n:Nat):(begL f n).length=n+1:=by simp[begL]
theorem begL_at {f:Bool}{n i:Nat} (h:i<n+1):(begL f n)[i]'(by rw[begL_len];exact h)=(i==0||!f):=by simp[begL]
def plc (G:List Bool) (b:Bool) (n k:Nat):List Nat:=(List.range k).filter fun i=>G.getD i false&&(!b||i==n)
theorem plc_succ (G:List Bool) (b:Bool) (n k:Nat):plc G b n (k+1)=plc G b n k++if (G.getD k false&&(!b||k==n)) then[k] else[]:=by
 unfold plc
 rw[List.range_succ,List.filter_append]
 simp only[List.filter_cons,List.filter_nil]
theorem firstI_snoc (l:List Nat) (k:Nat):firstI (l++[k])=if firstI l<0 then(k:Int) else firstI l:=by
 cases l with
 |nil=>simp[firstI]
 |cons x l=>
  have:¬((x:Int)<0):=by omega
  simp[firstI,this]
theorem ends_any {s:List UInt8} (hs:s.length≤60) {t:HT} (hok:HTOk 4 t) {lo p:Nat}{w:World} (ht:HTAt lo w p t) (f b:Bool) :
  Calls Tryz.prog 61 #[svV p f b,.string (ba s)] w fun e w'=>e=.returned (.tuple #[.int .i64 (firstI (plc (frL s t (begL f s.length)) b s.length (s.length+1))),.int .i64 (lastI (plc (frL s t (begL f s.length)) b s.length (s.length+1)))])∧Below w.heap.size w w':=by
 have HFR:Hid (FrC s t (frL s t)):=from_any hs hok
 have HHT:Hid (HTAt lo w p t):=ht
 have HGL:Hid ((frL s t (begL f s.length)).length=s.length+1):=frL_len s t _ (begL_len f _)
 obtain⟨G,hG⟩:∃ G,G=frL s t (begL f s.length):=⟨_,rfl⟩
 have HG:Hid (frL s t (begL f s.length)=G):=hG.symm
 rw[←hG] at HGL ⊢
 obtain⟨n,hn⟩:∃ n,n=s.length:=⟨_,rfl⟩
 have HN:Hid (n=s.length):=hn
 obtain⟨sb,hsb⟩:∃ sb,sb=ba s:=⟨_,rfl⟩
 have HSB:Hid (sb=ba s):=hsb
 have hbz:sb.size=n:=by rw[hsb,ba_size];exact hn.symm
 have hn6:n≤60:=by omega
 rw[←hsb]
 rw[←hn] at HGL ⊢
 obtain⟨L,hL⟩:∃ L,L=n+1:=⟨_,rfl⟩
 obtain⟨iB,hiB,hzB,hz1B,hz2B⟩:=info_parts Tryz.infoQB
 have hmk0:=fun w0=>make_eq Tryz.underlying30 hiB hzB hz1B hz2B L (by omega) (by unfold maxLen;omega) w0
 have hLI:(L:Int)=(n:Int)+1:=by omega
 have hmk:=hmk0
 simp only[hLI] at hmk
 have HL:Hid (L=n+1):=hL
 obtain⟨w0,hw0⟩:∃ w0,w0=w.alloc (.cells #[.pointer (some ⟨p,0,none⟩),.bool f,.bool b] 62):=⟨_,rfl⟩
 have HW0:Hid _:=hw0
 have HB0:Hid (Below w.heap.size w w0):=by rw[hw0];exact(Below.refl _ _).alloc (Nat.le_refl _) _
 have HX0:Hid (∀ W,Below w0.heap.size w0 W→W.heap[w.heap.size]?=some (.cells #[.pointer (some ⟨p,0,none⟩),.bool f,.bool b] 62)):=fun W hb=>by rw[hb.block _ (by rw[hw0];simp),hw0];exact heap_alloc_new w _
 have hz0:w0.heap.size=w.heap.size+1:=by rw[hw0];simp
 have HZ0:Hid _:=hz0
 clear hs hok ht hG hn hsb hL hmk0 hw0 hLI hz0
 go_enter Tryz.func61,Tryz.ntmps61
 go_upto_region 1 with(fail)
 rw[←HW0.out]
 go_upto_region 3 with(fail)
 obtain⟨w1,hw1⟩:∃ w1,w1=w0.alloc (.cells (mkA L (.bool false)) 4):=⟨_,rfl⟩
 rw[←hw1]
 have HB1:Hid (Below w0.heap.size w0 w1):=by rw[hw1];exact(Below.refl _ _).alloc (Nat.le_refl _) _
 have HN1:Hid (Nw w1 w0.heap.size L (fun _=>.bool false)):=by
  rw[hw1];exact Nw.new w0 L (.bool false) rfl 4
 obtain⟨q,hq⟩:∃ q,q=w0.heap.size:=⟨_,rfl⟩
 have HQ:Hid (q=w0.heap.size):=hq
 rw[←hq] at HN1 ⊢
 clear hw1 hq hmk
 go_loopw [7] (fun i wr=>∃ x:Nat,i=.int .i64 x∧x≤n+1∧Below w0.heap.size w0 wr∧Nw wr q L (fun j=>.bool (decide (j<x)&&(j==0||!f)))) (fun i _=>n+1-(intOf i).toNat)
 case atStart=>exact⟨0,rfl,by omega,HB1.out,HN1.out.congr (fun j _=>by simp)⟩
 case round=>
  obtain⟨x,rfl,hx,hbl,hnw⟩:=hrel
  have HBL:Hid (Below w0.heap.size w0 wr):=hbl
  have HNW:Hid (Nw wr q L (fun j=>.bool (decide (j<x)&&(j==0||!f)))):=hnw
  obtain⟨s0,s1,s2⟩:=box3 (HX0.out wr hbl)
  by_cases hxl:x≤n
  ·have hxI:(x:Int)≤n:=by omega
   have hxL:x<L:=by have:=HL.out;omega
   have hxLI:(x:Int)<L:=by omega
   have d3:=hnw.c x hxL
   have d4:=hnw.fz
   have HST:Hid (∀ v,v=(x==0||!f)→Nw (wr.setCell ⟨q,x,none⟩ (.bool v)) q L (fun j=>.bool (decide (j<x+1)&&(j==0||!f)))):=fun v hv=>(hnw.set x hxL (.bool v)).congr (fun j hj=>by
    by_cases e:j=x
    ·subst e;simp[hv]
    ·rw[if_neg e]
     by_cases e2:j<x
     ·simp[e2,Nat.lt_succ_of_lt e2]
     ·have e3:¬ j<x+1:=by omega
      simp[e2,e3])
   have HSBL:Hid (∀ v,Below w0.heap.size w0 (wr.setCell ⟨q,x,none⟩ v)):=fun v=>hbl.setCell (by rw[HQ.out];exact Nat.le_refl _) v
   clear hbl hnw
   by_cases hx0:x=0
   ·subst hx0
    go_wp2
    go_roundw
    case rel=>exact⟨1,by go_num,by omega,HSBL.out _,HST.out _ (by simp)⟩
    case measure=>simp[intOf]<;>omega
   ·have hx0I:((x:Int)==0)=false:=by simp;omega
    go_wp2
    go_roundw
    case rel=>exact⟨x+1,by go_num,by omega,HSBL.out _,HST.out _ (by simp[hx0])⟩
    case measure=>simp[intOf]<;>omega
  ·have hxI:¬(x:Int)≤n:=by omega
   have HROW:Hid (RowE eB wr (.slice (some ⟨q,0,none⟩) L L) (begL f s.length)):=by
    have hll:(begL f s.length).length=L:=by rw[begL_len,←HN.out];exact HL.out.symm
    have:=Nw.row (l:=begL f s.length) (enc:=eB) (c:=L) (g:=q) (w:=wr) (f:=fun j=>.bool (decide (j<x)&&(j==0||!f))) (by rw[hll];exact hnw) (fun j hj=>by
     have h1:j<x:=by have:=HL.out;omega
     show Value.bool _=eB _
     rw[begL_at (by rw[begL_len] at hj;exact hj)]
     simp[h1])
    rw[hll] at this
    exact this
   have HBW:Hid (Below w.heap.size w wr):=HB0.out.trans (hbl.mono HB0.out.size)
   have HFC:Hid (Calls Tryz.prog 110 #[.pointer (some ⟨p,0,none⟩),.string sb,.slice (some ⟨q,0,none⟩) L L] wr fun e w'=>∃ v,e=.returned v∧RowE eB w' v G∧Below wr.heap.size wr w'):=by
    rw[HSB.out,←HG.out]
    exact HFR.out wr lo p _ _ (HHT.out.below HBW.out) HROW.out (begL_len f _)
   clear hbl hnw
   go_upto_region 7 with(go_at_call 110;refine HFC.out.mono ?_;rintro e w3 ⟨v3,rfl,hr3,hb3⟩;have HR3:Hid (RowE eB w3 v3 G):=hr3;have HB3:Hid (Below w.heap.size w w3):=HBW.out.trans (hb3.mono HBW.out.size);have HX3:Hid (w3.heap[w.heap.size]?=some (.cells #[.pointer (some ⟨p,0,none⟩),.bool f,.bool b] 62)):=HX0.out w3 (HBL.out.trans (hb3.mono HBL.out.size));clear hr3 hb3)
   clear s0 s1 s2 HFC HROW
   obtain⟨s0,s1,s2⟩:=box3 HX3.out
   obtain⟨b3,o3,c3,hv3,hc3⟩:=HR3.out.nonnil (by rw[HGL.out];omega)
   have HC3:Hid (∀ j (hj:j<G.length),w3.cell? ⟨b3,o3+j,none⟩=some (eB G[j])):=hc3
   subst hv3
   have hgl:G.length=L:=by rw[HGL.out];exact HL.out.symm
   rw[hgl]
   have HGLL:Hid (G.length=L):=hgl
   clear hc3 hgl
   go_upto_region 10 with(fail)
   go_loop [9,10,11] (fun fi la i=>∃ y:Nat,i=.int .i64 y∧y≤n+1∧fi=.int .i64 (firstI (plc G b n y))∧la=.int .i64 (lastI (plc G b n y))) (fun _ _ i=>n+1-(intOf i).toNat)
   case atStart=>exact⟨0,rfl,by omega,rfl,rfl⟩
   case round=>
    obtain⟨y,rfl,hy,rfl,rfl⟩:=hrel
    by_cases hyl:y≤n
    ·have hyI:(y:Int)≤n:=by omega
     have hyL:y<L:=by have:=HL.out;omega
     have hyLI:(y:Int)<L:=by omega
     have hyg:y<G.length:=by have:=HGLL.out;omega
     have d1:=HC3.out y hyg
     have HPS:Hid (plc G b n (y+1)=plc G b n y++if (G[y]&&(!b||y==n)) then[y] else[]):=by show _=_;rw[plc_succ,getD_at hyg]
     obtain⟨z,hz⟩:∃ z,z=G[y]:=⟨_,rfl⟩
     rw[←hz] at d1 HPS
     have HFS:Hid (firstI (plc G b n y++[y])=if firstI (plc G b n y)<0 then(y:Int) else firstI (plc G b n y)):=firstI_snoc _ _
     have HLS:Hid (lastI (plc G b n y++[y])=y):=lastI_snoc _ _
     generalize hfe:firstI (plc G b n y)=fi at *
     generalize hle:lastI (plc G b n y)=la at *
     have HFE:Hid (firstI (plc G b n y)=fi):=hfe
     have HLE:Hid (lastI (plc G b n y)=la):=hle
     clear hz hfe hle
     cases z
     ·have HPY:Hid (plc G b n (y+1)=plc G b n y):=by show _=_;rw[HPS.out];simp
      have HF2:Hid (firstI (plc G b n (y+1))=fi):=by show _=_;rw[HPY.out];exact HFE.out
      have HL2:Hid (lastI (plc G b n (y+1))=la):=by show _=_;rw[HPY.out];exact HLE.out
      clear HPS HFS HLS HPY
      go_wp2
      go_round
      case rel=>exact⟨y+1,by go_num,by omega,by rw[HF2.out],by rw[HL2.out]⟩
      case measure=>simp[intOf]<;>omega
     ·cases b
      ·have HPY:Hid (plc G false n (y+1)=plc G false n y++[y]):=by show _=_;rw[HPS.out];simp
       by_cases hfi:fi<0
       ·have HF2:Hid (firstI (plc G false n (y+1))=y):=by show _=_;rw[HPY.out,HFS.out,if_pos hfi]
        have HL2:Hid (lastI (plc G false n (y+1))=y):=by show _=_;rw[HPY.out,HLS.out]
        clear HPS HFS HLS HPY
        go_wp2
        go_round
        case rel=>exact⟨y+1,by go_num,by omega,by rw[HF2.out],by rw[HL2.out]⟩
        case measure=>simp[intOf]<;>omega
       ·have HF2:Hid (firstI (plc G false n (y+1))=fi):=by show _=_;rw[HPY.out,HFS.out,if_neg hfi]
        have HL2:Hid (lastI (plc G false n (y+1))=y):=by show _=_;rw[HPY.out,HLS.out]
        clear HPS HFS HLS HPY
        go_wp2
        go_round
        case rel=>exact⟨y+1,by go_num,by omega,by rw[HF2.out],by rw[HL2.out]⟩
        case measure=>simp[intOf]<;>omega
      ·by_cases hyn:y=n
       ·have hynI:((y:Int)==n)=true:=by simp[hyn]
        have HYN:Hid (y=n):=hyn
        clear hyn
        have HPY:Hid (plc G true n (y+1)=plc G true n y++[y]):=by show _=_;rw[HPS.out];simp[HYN.out]
        by_cases hfi:fi<0
        ·have HF2:Hid (firstI (plc G true n (y+1))=y):=by show _=_;rw[HPY.out,HFS.out,if_pos hfi]
         have HL2:Hid (lastI (plc G true n (y+1))=y):=by show _=_;rw[HPY.out,HLS.out]
         clear HPS HFS HLS HPY
         go_wp2
         go_round
         case rel=>exact⟨y+1,by go_num,by omega,by rw[HF2.out],by rw[HL2.out]⟩
         case measure=>simp[intOf]<;>omega
        ·have HF2:Hid (firstI (plc G true n (y+1))=fi):=by show _=_;rw[HPY.out,HFS.out,if_neg hfi]
         have HL2:Hid (lastI (plc G true n (y+1))=y):=by show _=_;rw[HPY.out,HLS.out]
         clear HPS HFS HLS HPY
         go_wp2
         go_round
         case rel=>exact⟨y+1,by go_num,by omega,by rw[HF2.out],by rw[HL2.out]⟩
         case measure=>simp[intOf]<;>omega
       ·have hynI:((y:Int)==n)=false:=by simp;omega
        have HYN:Hid (¬ y=n):=hyn
        have HPY:Hid (plc G true n (y+1)=plc G true n y):=by show _=_;rw[HPS.out];simp[HYN.out]
        have HF2:Hid (firstI (plc G true n (y+1))=fi):=by show _=_;rw[HPY.out];exact HFE.out
        have HL2:Hid (lastI (plc G true n (y+1))=la):=by show _=_;rw[HPY.out];exact HLE.out
        clear HPS HFS HLS HPY
        go_wp2
        go_round
        case rel=>exact⟨y+1,by go_num,by omega,by rw[HF2.out],by rw[HL2.out]⟩
        case measure=>simp[intOf]<;>omega
    ·have hyI:¬(y:Int)≤n:=by omega
     have HYE:Hid (y=n+1):=by show _=_;omega
     go_wp2
     go_ret2
     refine⟨?_,HB3.out⟩
     rw[←HYE.out]
     rfl
theorem stp_tb {n k:Nat}{t:Tn} (h:TnOk n k t) (hk:k≤256) {q:Nat} (hq:q<n) (c:UInt8):stp (tbOf t) q c=nx t q (t.cls.getD c.toNat 0):=by
 have hc:c.toNat<t.cls.length:=by rw[h.cl];exact c.toNat_lt
 have hck:=h.ck _ (List.getElem_mem hc)
 have hq':q<t.next.length:=by rw[h.nl];exact hq
 have hr:=h.r _ (List.getElem_mem hq')
 have hu:(UInt8.ofNat (t.cls[c.toNat])).toNat=t.cls[c.toNat]:=by simp;omega
 have hz:t.cls[c.toNat]<(t.next[q]).length:=by omega
 unfold stp nx
 simp only[tbOf,List.getElem?_map,List.getElem?_eq_getElem hc,List.getElem?_eq_getElem hq',Option.map_some,Option.getD_some,hu,List.getElem?_eq_getElem hz]
 rw[getD_at hc,getD_at hq',getD_at hz]
 simp
theorem stL_tb {n k:Nat}{t:Tn} (h:TnOk n k t) (hk:k≤256) (u:List UInt8):stL (tbOf t) u=rnT t 0 u:=by
 have hn:=h.n1
 refine snoc_ind (P:=fun u=>stL (tbOf t) u=rnT t 0 u) rfl (fun u b ih=>?_) u
 rw[stL_snoc,ih,rnT_snoc,stp_tb h hk (rnT_lt h u (by omega))]
theorem accN_tb (t:Tn) (q:Nat):accN (tbOf t) q=ac t q:=by
 unfold accN ac
 simp[tbOf]
theorem suf_by {s:List UInt8}{f:Bool}{L:Lng}{i:Nat} (hi:i≤s.length):endsAt f L (s.take i)↔bySet s L (setL (begL f s.length)) i:=by
 unfold endsAt bySet
 rw[List.map_take]
 have hl:((s.map UInt8.toNat).take i).length=i:=by simp;omega
 constructor
 ·rintro⟨v,⟨x,e,hf⟩,hv⟩
  have hlx:=congrArg List.length e
  rw[hl,List.length_append] at hlx
  refine⟨x.length,by omega,?_,?_⟩
  ·unfold setL
   rw[getD_at (by rw[begL_len];omega),begL_at (by omega)]
   cases f with
   |false=>simp
   |true=>rw[hf rfl];rfl
  ·rw[e];simpa using hv
 ·rintro⟨j,h1,h2,h3⟩
  refine⟨_,⟨((s.map UInt8.toNat).take i).take j,(List.take_append_drop j _).symm,fun hf=>?_⟩,h3⟩
  unfold setL at h2
  rw[getD_at (by rw[begL_len];omega),begL_at (by omega),hf] at h2
  have:j=0:=by simpa using h2
  subst this;rfl
theorem ends_tb {s:List UInt8}{t:HT} (hok:HTOk 4 t) {f b:Bool}{T:Tn}{n k:Nat} (hF:TnFull n k T) (hn:n≤200) (hk:k≤256) (hb:T.back=b) (hac:∀ u,ac T (rnT T 0 u)=true↔endsAt f (LCs [toC (kt t)]) u) :
  endsL (tbOf (leastM T)) s=plc (frL s t (begL f s.length)) b s.length (s.length+1):=by
 obtain⟨n',k',hL⟩:=leastM_lst hF hn
 obtain⟨hi,-⟩:=least_small hF.ok hn hk
 have hk':k'≤256:=by
  obtain⟨c,hok2⟩:=tbOk_of hi
  have h5:0<(leastM T).next.length:=by have:=hL.ok.n1;have:=hL.ok.nl;omega
  have h6:=(hL.ok.r _ (List.getElem_mem h5)).1
  have h7:=(hok2.r (((leastM T).next[0]).map Int.ofNat) (by simp only[tbOf];exact List.mem_map.2 ⟨_,List.getElem_mem h5,rfl⟩)).1
  have:=hok2.c256.1
  simp at h7
  omega
 have hLC:LCs [toC (kt t)]=LK (kt t):=by
  simp only[LCs,LC_toC]
  exact lng_ext fun w=>by simp[lAlt,l0]
 have key:∀ i,i≤s.length→accN (tbOf (leastM T)) (stL (tbOf (leastM T)) (s.take i))=(frL s t (begL f s.length)).getD i false:=fun i hi=>by
  rw[stL_tb hL.ok hk',accN_tb,leastM_run hF.ok hn]
  have h1:=hac (s.take i)
  rw[hLC,suf_by hi] at h1
  have h2:=(frL_by s hok (begL f s.length) (begL_len f _)).2 i hi
  unfold setL at h2
  cases h3:ac T (rnT T 0 (s.take i)) with
  |true=>exact(h2.2 (h1.1 h3)).symm
  |false=>
   cases h4:(frL s t (begL f s.length)).getD i false with
   |false=>rfl
   |true=>rw[h1.2 (h2.1 h4)] at h3;cases h3
 have hback:(tbOf (leastM T)).back=b:=by
  obtain⟨x,hx,hl⟩:=leastM_parts T
  rw[hl];exact hb
 unfold endsL
 rw[plc_succ]
 congr 1
 ·unfold eP plc
  refine List.filter_congr (fun i hi=>?_)
  have hi':i<s.length:=by simpa using hi
  rw[hback,key i (by omega),show(i==s.length)=false by simp;omega]
  cases b<;>simp
 ·have h1:=key s.length (Nat.le_refl _)
  rw[List.take_length] at h1
  rw[h1]
  simp
theorem finds_yes {s:List UInt8} (hs:s.length≤60) {t:HT} (hok:HTOk 4 t) {lo p m c:Nat}{w:World}{tb:Tb} (ht:HTAt lo w p t) (hm:Mch w m tb c) (f b:Bool) (hE:endsL tb s=plc (frL s t (begL f s.length)) b s.length (s.length+1)) :
  Calls Tryz.prog 36 #[.pointer (some ⟨m,0,none⟩),svV p f b,.string (ba s)] w fun e w'=>e=.returned (.bool true)∧Below w.heap.size w w':=by
 have hlen:s.length≤maxLen:=by unfold maxLen;omega
 obtain⟨w0,hw0⟩:∃ w0,w0=w.alloc (.cells #[.pointer (some ⟨p,0,none⟩),.bool f,.bool b] 62):=⟨_,rfl⟩
 have HW0:Hid (w0=w.alloc (.cells #[.pointer (some ⟨p,0,none⟩),.bool f,.bool b] 62)):=hw0
 have hb0:Below w.heap.size w w0:=by rw[hw0];exact(Below.refl _ _).alloc (Nat.le_refl _) _
 have HB0:Hid (Below w.heap.size w w0):=hb0
 have HM0:Hid (Mch w0 m tb c):=hm.below hb0
 obtain⟨s0,s1,s2⟩:=box3 (show w0.heap[w.heap.size]?=some (.cells #[.pointer (some ⟨p,0,none⟩),.bool f,.bool b] 62) by rw[hw0];exact heap_alloc_new w _)
 have hfi:=firstI_ge (endsL tb s)
 obtain⟨sb,hsb⟩:∃ sb,sb=ba s:=⟨_,rfl⟩
 obtain⟨fi,hfe⟩:∃ fi,fi=firstI (endsL tb s):=⟨_,rfl⟩
 obtain⟨la,hle⟩:∃ la,la=lastI (endsL tb s):=⟨_,rfl⟩
 have HEN:Hid (Calls Tryz.prog 61 #[svV p f b,.string sb] w0 fun e w'=>e=.returned (.tuple #[.int .i64 fi,.int .i64 la])∧Below w0.heap.size w0 w'):=by
  have:=ends_any hs hok (ht.below hb0) f b
  rw[←hE,←hfe,←hle,←hsb] at this
  exact this
 have HIM:Hid (∀ W,Mch W m tb c→Calls Tryz.prog 39 #[.pointer (some ⟨m,0,none⟩),.string sb] W fun e w'=>e=.returned (.tuple #[.bool (decide (0≤fi)),.int .i64 0])∧Below W.heap.size W w'):=fun W h=>by
  rw[hsb,hfe,hfi];exact ismatch_any W m tb c h s hlen
 have HSE:Hid (∀ W,Mch W m tb c→Calls Tryz.prog 55 #[.pointer (some ⟨m,0,none⟩),.string sb] W fun e w'=>e=.returned (.tuple #[.int .i64 fi,.int .i64 0])∧Below W.heap.size W w'):=fun W h=>by
  rw[hsb,hfe];exact shortest_any W m tb c h s hlen
 have HLE:Hid (∀ W,Mch W m tb c→Calls Tryz.prog 56 #[.pointer (some ⟨m,0,none⟩),.string sb] W fun e w'=>e=.returned (.tuple #[.int .i64 la,.int .i64 0])∧Below W.heap.size W w'):=fun W h=>by
  rw[hsb,hle];exact longest_any W m tb c h s hlen
 rw[←hsb]
 clear hw0 hb0 hm ht hok hs hE hfi hsb hfe hle hlen
 go_enter Tryz.func36,Tryz.ntmps36
 go_upto_region 1 with(fail)
 rw[←HW0.out]
 go_upto_region 5 with(first|(go_at_call 56;refine(HLE.out _ HM3.out).mono ?_;rintro e w4 ⟨rfl,hb4⟩;have HB4:Hid (Below w.heap.size w w4):=HB3.out.trans (hb4.mono HB3.out.size);clear hb4)|(go_at_call 55;refine(HSE.out _ HM2.out).mono ?_;rintro e w3 ⟨rfl,hb3⟩;have HM3:Hid (Mch w3 m tb c):=HM2.out.below hb3;have HB3:Hid (Below w.heap.size w w3):=HB2.out.trans (hb3.mono HB2.out.size);clear hb3)|(go_at_call 39;refine(HIM.out _ HM1.out).mono ?_;rintro e w2 ⟨rfl,hb2⟩;have HM2:Hid (Mch w2 m tb c):=HM1.out.below hb2;have HB2:Hid (Below w.heap.size w w2):=HB1.out.trans (hb2.mono HB1.out.size);clear hb2)|(go_at_call 61;refine HEN.out.mono ?_;rintro e w1 ⟨rfl,hb1⟩;have HM1:Hid (Mch w1 m tb c):=HM0.out.below hb1;have HB1:Hid (Below w.heap.size w w1):=HB0.out.trans (hb1.mono HB0.out.size);clear hb1))
 by_cases hf0:0≤fi
 ·have hfd:decide (0≤fi)=true:=by simpa using hf0
  rw[hfd]
  go_wp2
  go_ret
  exact⟨rfl,HB4.out⟩
 ·have hfd:decide (0≤fi)=false:=by simpa using hf0
  rw[hfd]
  go_wp2
  go_ret
  exact⟨rfl,HB4.out⟩
theorem letters_any (w:World) (v:Value) (l:List Int) (B:Nat) (h:Raw B w v l):Calls Tryz.prog 33 #[v] w fun e w'=>∃ s:List UInt8,e=.returned (.string (ba s))∧s.length≤40∧Below w.heap.size w w':=by
 obtain⟨a,c,rfl⟩:=h.r.form
 have HR:Hid (Raw B w (.slice a l.length c) l):=h
 have hn:=h.n
 obtain⟨n,hnn⟩:∃ n,n=l.length:=⟨_,rfl⟩
 have HN:Hid (n=l.length):=hnn
 rw[←hnn] at hn ⊢
 unfold maxLen at hn
 clear h hnn
 go_enter Tryz.func33,Tryz.ntmps33
 go_upto_region 4 with(fail)
 go_loop [4,5,6] (fun st i _=>∃(x:Nat) (s:List UInt8),i=.int .i64 x∧x≤n∧x≤40∧st=.string (ba s)∧s.length=x) (fun _ i _=>40-(intOf i).toNat)
 case atStart=>exact⟨0,[],rfl,by omega,by omega,rfl,rfl⟩
 case round=>
  obtain⟨x,s,rfl,hx,hx4,rfl,hs⟩:=hrel
  have HS:Hid (s.length=x):=hs
  have hsz:(ba s).size=x:=by rw[ba_size];exact hs
  obtain⟨sb,hsb⟩:∃ sb,sb=ba s:=⟨_,rfl⟩
  have HSB:Hid (sb=ba s):=hsb
  rw[←hsb] at hsz ⊢
  clear hs hsb
  by_cases hxn:x<n
  ·have hxI:(x:Int)<n:=by omega
   by_cases hx40:x<40
   ·have hx4I:(x:Int)<40:=by omega
    have hxl:x<l.length:=by have:=HN.out;omega
    obtain⟨b1,o1,c1,hf,hc⟩:=HR.out.r.nonnil (by omega)
    injection hf with e1 e2 e3
    subst e1
    have d1:=hc x hxl
    have hz:=HR.out.b _ (List.getElem_mem hxl)
    obtain⟨k,hk,hp⟩:=pk_at hz.1 hz.2 (n:=4) (by omega) (by omega) (z:=4) (by omega)
    have HP:Hid _:=hp
    generalize l[x]=z at *
    have a1:¬ 9223372036854775807<sb.size+1:=by omega
    have hk4:k=0∨k=1∨k=2∨k=3:=by omega
    clear hc e2 e3 hp hk hz
    have HF:Hid (∀ y:UInt8,∃ s',ba s++ba [y]=ba s'∧s'.length=x+1):=fun y=>⟨s++[y],ba_cat _ _,by simp[HS.out]⟩
    rcases hk4 with rfl|rfl|rfl|rfl
    all_goals
     go_wp2_with (go_at_call 21;refine(HP.out _).mono ?_;rintro e w6 ⟨rfl,hw6⟩;obtain rfl:=hw6.symm)
     go_round
     case rel=>first|(obtain⟨s',h1,h2⟩:=HF.out 97;exact⟨x+1,s',by go_num,by omega,by omega,by rw[HSB.out,←h1];rfl,h2⟩)|(obtain⟨s',h1,h2⟩:=HF.out 98;exact⟨x+1,s',by go_num,by omega,by omega,by rw[HSB.out,←h1];rfl,h2⟩)|(obtain⟨s',h1,h2⟩:=HF.out 99;exact⟨x+1,s',by go_num,by omega,by omega,by rw[HSB.out,←h1];rfl,h2⟩)|(obtain⟨s',h1,h2⟩:=HF.out 120;exact⟨x+1,s',by go_num,by omega,by omega,by rw[HSB.out,←h1];rfl,h2⟩)
     case measure=>simp[intOf]<;>omega
   ·have hx4I:¬(x:Int)<40:=by omega
    go_wp2
    go_ret
    exact⟨s,by rw[←HSB.out];rfl,by have:=HS.out;omega,Below.refl _ _⟩
  ·have hxI:¬(x:Int)<n:=by omega
   go_wp2
   go_ret
   exact⟨s,by rw[←HSB.out];rfl,by have:=HS.out;omega,Below.refl _ _⟩
open Sx (Prt Cnt)
def spT:HT→Nat
 |.lf _ _ _=>1
 |.bi _ _ _ x y=>spT x+spT y
 |.un k l m x=>if k=7 then spT x*(l+m) else spT x
theorem spT_le:∀ {d:Nat}{t:HT},HTOk d t→spT t≤4 ^ d
 |d,.lf k l m,_=>by simp only[spT];exact Nat.one_le_pow _ _ (by omega)
 |d+1,.bi k l m x y,h=>by
  simp only[HTOk] at h
  have h1:=spT_le h.2.2.2.1
  have h2:=spT_le h.2.2.2.2
  simp only[spT,Nat.pow_succ];omega
 |d+1,.un k l m x,h=>by
  simp only[HTOk] at h
  have h1:=spT_le h.2.2.2
  simp only[spT,Nat.pow_succ]
  split
  ·have:spT x*(l+m)≤spT x*4:=Nat.mul_le_mul_left _ (by omega)
   omega
  ·omega
 |0,.bi k l m x y,h=>by simp[HTOk] at h
 |0,.un k l m x,h=>by simp[HTOk] at h
abbrev SpC (w:World) (p n:Nat):Prop:=∀ W,Below w.heap.size w W→Calls Tryz.prog 32 #[.pointer (some ⟨p,0,none⟩)] W fun e w'=>e=.returned (.int .i64 n)∧Below W.heap.size W w'
theorem spots_leaf (w:World) (p k l m:Nat) (hk:k=0∨k=1∨k=2) (h:w.heap[p]?=some (trB k l m none none)) :
  Calls Tryz.prog 32 #[.pointer (some ⟨p,0,none⟩)] w fun e w'=>e=.returned (.int .i64 1)∧Below w.heap.size w w':=by
 obtain⟨p0,-,-,-,-⟩:=box5 h
 clear h
 rcases hk with rfl|rfl|rfl
 all_goals
  go_enter Tryz.func32,Tryz.ntmps32
  go_wp2
  go_ret
  exact⟨rfl,Below.refl _ _⟩
theorem spots_two (w:World) (p k l m px py a b:Nat) (hk:k=3∨k=4) (h:w.heap[p]?=some (trB k l m (some ⟨px,0,none⟩) (some ⟨py,0,none⟩))) (hx:SpC w px a) (hy:SpC w py b) (ha:a≤1000) (hb:b≤1000) :
  Calls Tryz.prog 32 #[.pointer (some ⟨p,0,none⟩)] w fun e w'=>e=.returned (.int .i64 ((a+b:Nat):Int))∧Below w.heap.size w w':=by
 have HP:Hid (∀ W,Below w.heap.size w W→W.heap[p]?=some (trB k l m (some ⟨px,0,none⟩) (some ⟨py,0,none⟩))):=fun W hb=>by rw[hb.block p (some_lt h)];exact h
 obtain⟨p0,p1,p2,p3,p4⟩:=box5 h
 clear h
 rcases hk with rfl|rfl
 all_goals
  go_enter Tryz.func32,Tryz.ntmps32
  go_wp2_with (first|(have:=hmark;go_at_call 32;refine(hy _ HB3.out).mono ?_;rintro e w4 ⟨rfl,l4⟩;have HB4:Hid (Below w.heap.size w w4):=HB3.out.trans (l4.mono HB3.out.size);obtain⟨z0,z1,z2,z3,z4⟩:=box5 (HP.out w4 HB4.out);clear l4)|(go_at_call 32;refine(hx _ (Below.refl _ _)).mono ?_;rintro e w3 ⟨rfl,l3⟩;have hmark:True:=trivial;have HB3:Hid (Below w.heap.size w w3):=l3;obtain⟨y0,y1,y2,y3,y4⟩:=box5 (HP.out w3 HB3.out);clear l3))
  go_ret
  exact⟨by simp,HB4.out⟩
theorem spots_one (w:World) (p k l m px a:Nat) (hk:k=5∨k=6) (h:w.heap[p]?=some (trB k l m (some ⟨px,0,none⟩) none)) (hx:SpC w px a) (ha:a≤1000) :
  Calls Tryz.prog 32 #[.pointer (some ⟨p,0,none⟩)] w fun e w'=>e=.returned (.int .i64 a)∧Below w.heap.size w w':=by
 have HP:Hid (∀ W,Below w.heap.size w W→W.heap[p]?=some (trB k l m (some ⟨px,0,none⟩) none)):=fun W hb=>by rw[hb.block p (some_lt h)];exact h
 obtain⟨p0,p1,p2,p3,p4⟩:=box5 h
 clear h
 rcases hk with rfl|rfl
 all_goals
  go_enter Tryz.func32,Tryz.ntmps32
  go_wp2_with (go_at_call 32;refine(hx _ (Below.refl _ _)).mono ?_;rintro e w3 ⟨rfl,l3⟩;have HB3:Hid (Below w.heap.size w w3):=l3;obtain⟨y0,y1,y2,y3,y4⟩:=box5 (HP.out w3 HB3.out);clear l3)
  go_ret
  exact⟨rfl,HB3.out⟩
theorem spots_rep (w:World) (p l m px a:Nat) (hl:l≤2) (hm:m≤2) (h:w.heap[p]?=some (trB 7 l m (some ⟨px,0,none⟩) none)) (hx:SpC w px a) (ha:a≤1000) :
  Calls Tryz.prog 32 #[.pointer (some ⟨p,0,none⟩)] w fun e w'=>e=.returned (.int .i64 ((a*(l+m):Nat):Int))∧Below w.heap.size w w':=by
 have HP:Hid (∀ W,Below w.heap.size w W→W.heap[p]?=some (trB 7 l m (some ⟨px,0,none⟩) none)):=fun W hb=>by rw[hb.block p (some_lt h)];exact h
 obtain⟨p0,p1,p2,p3,p4⟩:=box5 h
 clear h
 have hmul:a*(l+m)≤4000:=Nat.le_trans (Nat.mul_le_mul_left a (show l+m≤4 by omega)) (by omega)
 have hmI:((a:Int)*((l:Int)+m))=((a*(l+m):Nat):Int):=by push_cast;rfl
 have HMI:Hid _:=hmI
 have hm1:(a:Int)*((l:Int)+m)≤4000:=by rw[hmI];omega
 have hm2:0≤(a:Int)*((l:Int)+m):=by rw[hmI];omega
 rw[←HMI.out]
 clear hmI hmul
 go_enter Tryz.func32,Tryz.ntmps32
 go_wp2_with (go_at_call 32;refine(hx _ (Below.refl _ _)).mono ?_;rintro e w3 ⟨rfl,l3⟩;have HB3:Hid (Below w.heap.size w w3):=l3;obtain⟨y0,y1,y2,y3,y4⟩:=box5 (HP.out w3 HB3.out);clear l3)
 go_quiet (fail)
 go_wp2
 go_ret
 exact⟨rfl,belowQ HB3.out nq⟩
theorem spots_any:∀ {d:Nat}{t:HT},HTOk d t→d≤4→∀ {lo p:Nat}{w:World},HTAt lo w p t→Calls Tryz.prog 32 #[.pointer (some ⟨p,0,none⟩)] w fun e w'=>e=.returned (.int .i64 (spT t))∧Below w.heap.size w w'
 |d,.lf k l m,hok,_,lo,p,w,h=>by
  simp only[HTOk] at hok
  simp only[HTAt] at h
  exact spots_leaf w p k l m (by omega) h.2
 |d+1,.bi k l m x y,hok,hd,lo,p,w,h=>by
  simp only[HTOk] at hok
  simp only[HTAt] at h
  obtain⟨-,px,py,hb,hx,hy⟩:=h
  have hp:4 ^ d≤4 ^ 4:=Nat.pow_le_pow_right (by omega) (by omega)
  have h1:=spT_le hok.2.2.2.1
  have h2:=spT_le hok.2.2.2.2
  exact spots_two w p k l m px py (spT x) (spT y) hok.1 hb (fun W hW=>spots_any hok.2.2.2.1 (by omega) (hx.below hW)) (fun W hW=>spots_any hok.2.2.2.2 (by omega) (hy.below hW)) (by omega) (by omega)
 |d+1,.un k l m x,hok,hd,lo,p,w,h=>by
  simp only[HTOk] at hok
  simp only[HTAt] at h
  obtain⟨-,px,hb,hx⟩:=h
  have hp:4 ^ d≤4 ^ 4:=Nat.pow_le_pow_right (by omega) (by omega)
  have h1:=spT_le hok.2.2.2
  have ix:SpC w px (spT x):=fun W hW=>spots_any hok.2.2.2 (by omega) (hx.below hW)
  rcases hok.1 with rfl|rfl|rfl
  ·exact spots_one w p 5 l m px (spT x) (.inl rfl) hb ix (by omega)
  ·exact spots_one w p 6 l m px (spT x) (.inr rfl) hb ix (by omega)
  ·exact spots_rep w p l m px (spT x) hok.2.1 hok.2.2.1 hb ix (by omega)
 |0,.bi k l m x y,hok,_,_,_,_,_=>by simp[HTOk] at hok
 |0,.un k l m x,hok,_,_,_,_,_=>by simp[HTOk] at hok
theorem spC_kt:∀ {d:Nat}{t:HT},HTOk d t→spC (toC (kt t))=spT t
 |d,.lf k l m,h=>by
  simp only[kt]
  split<;>simp[toC,spC,spP,spN,spT]
 |d+1,.bi k l m x y,h=>by
  simp only[HTOk] at h
  have h1:=spC_kt h.2.2.2.1
  have h2:=spC_kt h.2.2.2.2
  simp only[kt]
  split
  ·simp[toC,spC_append,h1,h2,spT]
  ·simp[toC,spC,spP,spCs,spN,h1,h2,spT]
 |d+1,.un k l m x,h=>by
  simp only[HTOk] at h
  have h1:=spC_kt h.2.2.2
  rcases h.1 with rfl|rfl|rfl
  ·simp[kt,toC,spC,spP,spCs,spN,cnt,cop,h1,spT]
  ·simp[kt,toC,spC,spP,spCs,spN,cnt,cop,h1,spT]
  ·have hm:¬((l:Int)+(m:Int)=-1):=by omega
   have hz:((l:Int)+(m:Int)).toNat=l+m:=by omega
   simp[kt,toC,spC,spP,spCs,spN,cnt,cop,h1,spT,hm,hz]
 |0,.bi k l m x y,h=>by simp[HTOk] at h
 |0,.un k l m x,h=>by simp[HTOk] at h
theorem stsM_few {α β:Type} [DecidableEq α] {step:α→β→α}{rs:List β}{limit:Nat} (P:α→Prop) (hP:∀ q r,P q→r∈rs→P (step q r)) (hb:∀ l:List α,l.Nodup→(∀ q∈l,P q)→l.length≤limit):∀(f:Nat) (met:List α) (tk:Nat) (rows:List (List Nat)),met.Nodup→(∀ q∈met,P q)→tk≤met.length→limit<f+tk→∃ x,stsM step rs limit f met tk rows=some x
 |0,met,tk,rows,hd,hm,h1,h2=>by have:=hb met hd hm;omega
 |f+1,met,tk,rows,hd,hm,h1,h2=>by
  simp only[stsM]
  split
  ·exact⟨_,rfl⟩
  ·rename_i q hq
   have hd':=metL_nodup hd (rs.map (step q))
   have hm':∀ y∈metL met (rs.map (step q)),P y:=fun y hy=>by
    rcases mem_metL.1 hy with hy|hy
    ·exact hm y hy
    ·obtain⟨r,hr,rfl⟩:=List.mem_map.1 hy
     exact hP q r (hm q (List.mem_of_getElem? hq)) hr
   have:=hb _ hd' hm'
   rw[if_neg (by omega)]
   have htk:=(List.getElem?_eq_some_iff.1 hq).1
   have:=metL_len_ge met (rs.map (step q))
   exact stsM_few P hP hb f _ (tk+1) _ hd' hm' (by omega) (by omega)
theorem few_states {l:List Stt} (hd:l.Nodup) (h:∀ q∈l,Sp 6 q.w):l.length≤200:=by
 have:=nodup_len 128 (l.map fun q=>q.x0*2+(if q.ends then 1 else 0)) (List.pairwise_map.2 (List.Pairwise.imp_of_mem (fun {a b} ha hb hab e=>hab (by
  obtain⟨a1,a2,a3,a4⟩:=h a ha
  obtain⟨b1,b2,b3,b4⟩:=h b hb
  obtain⟨x0,x1,x2,x3,xe⟩:=a
  obtain⟨y0,y1,y2,y3,ye⟩:=b
  simp only[Stt.w] at *
  subst_vars
  cases xe<;>cases ye<;>simp at e ⊢<;>omega)) hd)) (fun y hy=>by
  obtain⟨q,hq,rfl⟩:=List.mem_map.1 hy
  have:=(h q hq).b
  simp only[Stt.w] at this
  split<;>omega)
 simp at this
 omega
theorem step_sp {n:Nat}{e:Ex}{p:Pc}{front:Bool} (he:ExOk n e) (hp:Pcs n p) {q:Stt}{rd:W4}:Sp n (stepM ⟨e.fs,p,front⟩ q rd).w:=by
 have hso:=Sp.orS he.s (q.w.and rd).all (Sp.none n)
 cases front
 ·exact hso.or hp.f
 ·exact hso
theorem search_few {p:Sx.Ptn} (hT:TrOkVs p.choices) (hs:spCs p.choices≤6):searchM p 200≠none:=by
 intro h
 unfold searchM at h
 rw[if_neg (by omega)] at h
 obtain⟨w1,w2,-⟩:=whole_r hT (by omega)
 generalize exCs p.choices pc0 ⟨[],[]⟩=ee at *
 have m1:ExOk 6 ⟨ee.2.bs++List.replicate (6-spCs p.choices) (fun _=>false),ee.2.fs++List.replicate (6-spCs p.choices) W4.none⟩:=⟨by simp[w1.b];omega,by simp[w1.f];omega,fun x hx=>by
  simp at hx
  rcases hx with hx|⟨-,rfl⟩
  ·exact(w1.s x hx).mono hs
  ·exact Sp.none 6⟩
 have hP:∀ q r,Sp 6 q.w→r∈metL [] (rdsM ee.2.bs)→Sp 6 (stepM ⟨ee.2.fs,ee.1,p.front⟩ q r).w:=fun q r _ _=>(step_sp w1 w2).mono hs
 obtain⟨x,hx⟩:=stsM_few (fun q:Stt=>Sp 6 q.w) hP (fun l h1 h2=>few_states h1 h2) 202 [stOf ee.1.first ee.1.empty] 0 [] (by simp) (fun q hq=>by simp at hq;subst hq;exact w2.f.mono hs) (by simp) (by omega)
 rw[hx] at h
 simp at h
theorem enc_at (W:World) (m:Nat) (tb:Tb) (c:Nat) (h:Mch W m tb c) (z:Int) (hz:z=0∨z=1) (big:Bool):Calls Tryz.prog 34 #[.pointer (some ⟨m,0,none⟩),.int .i64 z,.bool big] W fun e w'=>∃ E,e=.returned (.tuple #[.string (ba E),.int .i64 0])∧loadM isTb E=some tb∧E.length≤maxLen∧Below W.heap.size W w':=by
 obtain⟨kd,rfl,hk⟩:∃ kd:Nat,z=kd∧kd≤1:=by
  rcases hz with rfl|rfl
  ·exact⟨0,rfl,by omega⟩
  ·exact⟨1,rfl,by omega⟩
 have hi:isTb tb=true:=by obtain⟨_,_,_,h3⟩:=h;exact tbOk_is h3
 obtain⟨cc,hok⟩:=tbOk_of hi
 have hsz:=(enc_size (kind:=kd) big hok.fits).2
 refine(encode_any W m tb c h kd hk big).mono ?_
 rintro e w' ⟨h1,h2⟩
 exact⟨_,h1,load_self tabular_is hi hk big,by unfold maxLen;omega,h2⟩
theorem found_any (w:World) (v v2:Value) (l l2:List Int) (ends:Int) (hS:Sx.Tabs w) (hT:TabZ w) (hr:Raw w.heap.size w v l) (hr2:Raw w.heap.size w v2 l2) (r1:-9223372036854775808≤ends∧ends≤9223372036854775807) :
  Calls Tryz.prog 9 #[v,.int .i64 ends,v2] w fun e w'=>e=.returned (.bool true)∧Below w.heap.size w w':=by
 have HPL:Hid (Calls Tryz.prog 20 #[] w fun e w'=>e=.returned (.bool true)∧Below w.heap.size w w'):=plain_yes w hS hT
 have HSO:Hid (∀ W,Below w.heap.size w W→Calls Tryz.prog 30 #[v,.int .i64 ends] W fun e w'=>∃ p f b t,e=.returned (svV p f b)∧HTAt W.heap.size w' p t∧HTOk 4 t∧Below W.heap.size W w'):=fun W hW=>sought_at hr hW r1.1 r1.2
 have HLT:Hid (∀ W,Below w.heap.size w W→Calls Tryz.prog 33 #[v2] W fun e w'=>∃ s:List UInt8,e=.returned (.string (ba s))∧s.length≤40∧Below W.heap.size W w'):=fun W hW=>letters_any W v2 l2 _ (hr2.below hW)
 have HS:Hid (Sx.Tabs w):=hS
 have HTZ:Hid (TabZ w):=hT
 clear hr hr2 hS hT
 go_enter Tryz.func9,Tryz.ntmps9
 go_upto_region 3 with(first|(have:=hmark;go_at_call 30;refine(HSO.out _ HB1.out).mono ?_;rintro e w2 ⟨p,f,b,t,rfl,ht2,ho2,hb2⟩;have HT2:Hid (HTAt w1.heap.size w2 p t):=ht2;have HO2:Hid (HTOk 4 t):=ho2;have HB2:Hid (Below w.heap.size w w2):=HB1.out.trans (hb2.mono HB1.out.size);clear ht2 ho2 hb2)|(go_at_call 20;refine HPL.out.mono ?_;rintro e w1 ⟨rfl,hb1⟩;have HB1:Hid (Below w.heap.size w w1):=hb1;have hmark:True:=trivial;clear hb1))
 obtain⟨W3,hW3⟩:∃ W3,W3=w2.alloc (.cells #[.pointer (some ⟨p,0,none⟩),.bool f,.bool b] 62):=⟨_,rfl⟩
 have hb3:Below w2.heap.size w2 W3:=by rw[hW3];exact(Below.refl _ _).alloc (Nat.le_refl _) _
 have HB3:Hid (Below w.heap.size w W3):=HB2.out.trans (hb3.mono HB2.out.size)
 have HT3:Hid (HTAt w1.heap.size W3 p t):=HT2.out.below hb3
 have HX3:Hid (∀ W,Below W3.heap.size W3 W→W.heap[w2.heap.size]?=some (.cells #[.pointer (some ⟨p,0,none⟩),.bool f,.bool b] 62)):=fun W hb=>by rw[hb.block _ (by rw[hW3];simp),hW3];exact heap_alloc_new w2 _
 obtain⟨s0,s1,s2⟩:=box3 (HX3.out W3 (Below.refl _ _))
 obtain⟨S,hSe⟩:∃ S,S=ba (ptx t f b):=⟨_,rfl⟩
 have HTX:Hid (Calls Tryz.prog 31 #[svV p f b] W3 fun e w'=>e=.returned (.string S)∧Below W3.heap.size W3 w'):=by
  rw[hSe];exact stext_any HO2.out HT3.out f b
 rw[←hW3]
 clear hW3 HT2 HB2 HB1 HPL HSO hb3
 have hlen:=ptx_len HO2.out f b
 rcases ptx_comp HO2.out f b with⟨hc,hno⟩|⟨T,n,k,hc,hF,hn,hk,hfr,hbk,hac⟩
 ·have HCP:Hid (∀ W,Below w.heap.size w W→Calls Tryz.prog 29 #[.string S] W fun e w'=>e=.returned (.tuple #[.pointer none,.bool true])∧Below W.heap.size W w'):=fun W hW=>by rw[hSe];exact cpd_no HS.out HTZ.out hW (by omega) hc
  have hsp:6<spT t:=by
   rcases Nat.lt_or_ge 6 (spT t) with h|h
   ·exact h
   ·exfalso
    refine search_few (p:=⟨f,b,[toC (kt t)]⟩) (readP_tr (readP_one (kt_ok HO2.out) f b)) ?_ hno
    simp only[spCs,spC_kt HO2.out];omega
  have hspI:(6:Int)<spT t:=by omega
  have HSP:Hid (∀ W,Below W3.heap.size W3 W→Calls Tryz.prog 32 #[.pointer (some ⟨p,0,none⟩)] W fun e w'=>e=.returned (.int .i64 (spT t))∧Below W.heap.size W w'):=fun W hW=>spots_any HO2.out (by omega) (HT3.out.below hW)
  generalize spT t=N at *
  clear hc hlen hSe hno hsp
  go_wp2_with (first|(go_at_call 32;refine(HSP.out _ HL5.out).mono ?_;rintro e w6 ⟨rfl,hb6⟩;have HB6:Hid (Below w.heap.size w w6):=HB5.out.trans (hb6.mono HB5.out.size);clear hb6)|(have hmk:=HB4.out;go_at_call 29;refine(HCP.out _ HB4.out).mono ?_;clear hmk;rintro e w5 ⟨rfl,hb5⟩;have HB5:Hid (Below w.heap.size w w5):=HB4.out.trans (hb5.mono HB4.out.size);have HL5:Hid (Below W3.heap.size W3 w5):=HL4.out.trans (hb5.mono HL4.out.size);obtain⟨t0,t1,t2⟩:=box3 (HX3.out w5 HL5.out);clear hb5)|(go_at_call 31;refine HTX.out.mono ?_;rintro e w4 ⟨rfl,hb4⟩;have HL4:Hid (Below W3.heap.size W3 w4):=hb4;have HB4:Hid (Below w.heap.size w w4):=HB3.out.trans (hb4.mono HB3.out.size);clear hb4))
  go_ret
  exact⟨by rfl,HB6.out⟩
 ·obtain⟨tb,htb⟩:∃ tb,tb=tbOf (leastM T):=⟨_,rfl⟩
  rw[←htb] at hc
  have HCP:Hid (∀ W,Below w.heap.size w W→Calls Tryz.prog 29 #[.string S] W fun e w'=>∃ m c,e=.returned (.tuple #[.pointer (some ⟨m,0,none⟩),.bool true])∧Mch w' m tb c∧Below W.heap.size W w'):=fun W hW=>by rw[hSe];exact cpd_yes HS.out HTZ.out hW (by omega) hc
  have HEN:Hid (∀ s:List UInt8,endsL tb s=plc (frL s t (begL f s.length)) b s.length (s.length+1)):=fun s=>by rw[htb];exact ends_tb HO2.out hF hn hk hbk hac
  clear hc hlen hSe hF hn hk htb hfr hbk hac
  go_upto_region 9 with(first|(have hmk:=HB4.out;go_at_call 29;refine(HCP.out _ HB4.out).mono ?_;clear hmk;rintro e w5 ⟨m,c,rfl,hm5,hb5⟩;have HM5:Hid (Mch w5 m tb c):=hm5;have HB5:Hid (Below w.heap.size w w5):=HB4.out.trans (hb5.mono HB4.out.size);have HL5:Hid (Below W3.heap.size W3 w5):=HL4.out.trans (hb5.mono HL4.out.size);clear hb5 hm5)|(go_at_call 31;refine HTX.out.mono ?_;rintro e w4 ⟨rfl,hb4⟩;have HL4:Hid (Below W3.heap.size W3 w4):=hb4;have HB4:Hid (Below w.heap.size w w4):=HB3.out.trans (hb4.mono HB3.out.size);clear hb4))
  clear s0 s1 s2 HTX HCP
  go_upto_region 11 with(go_at_call 33;refine(HLT.out _ HB5.out).mono ?_;rintro e w6 ⟨s,rfl,hs6,hb6⟩;have HS6:Hid (s.length≤60):=Nat.le_trans hs6 (by omega);have HM6:Hid (Mch w6 m tb c):=HM5.out.below hb6;have HB6:Hid (Below w.heap.size w w6):=HB5.out.trans (hb6.mono HB5.out.size);have HL6:Hid (Below W3.heap.size W3 w6):=HL5.out.trans (hb6.mono HL5.out.size);clear hb6 hs6)
  have HT6:Hid (HTAt w1.heap.size w6 p t):=HT3.out.below HL6.out
  have HFI:Hid (∀ W m' c',Below w6.heap.size w6 W→Mch W m' tb c'→Calls Tryz.prog 36 #[.pointer (some ⟨m',0,none⟩),svV p f b,.string (ba s)] W fun e w'=>e=.returned (.bool true)∧Below W.heap.size W w'):=fun W m' c' hW hm=>finds_yes HS6.out HO2.out (HT6.out.below hW) hm f b (HEN.out s)
  have HFE:Hid (∀ W m' c',Below w6.heap.size w6 W→Mch W m' tb c'→Calls Tryz.prog 36 #[.pointer (some ⟨m',0,none⟩),svV p f b,.string ⟨#[]⟩] W fun e w'=>e=.returned (.bool true)∧Below W.heap.size W w'):=fun W m' c' hW hm=>finds_yes (s:=[]) (by simp) HO2.out (HT6.out.below hW) hm f b (HEN.out [])
  have HX6:Hid (∀ W,Below w6.heap.size w6 W→W.heap[w2.heap.size]?=some (.cells #[.pointer (some ⟨p,0,none⟩),.bool f,.bool b] 62)):=fun W hb=>HX3.out W (HL6.out.trans (hb.mono HL6.out.size))
  obtain⟨sb,hsb⟩:∃ sb,sb=ba s:=⟨_,rfl⟩
  rw[←hsb] at HFI ⊢
  clear hsb HLT HS HTZ HB3 HT3 HX3 HM5 HB5 HL5 HEN
  have HEX:Hid (∀ W,Below w6.heap.size w6 W→Below w.heap.size w W):=fun W hW=>HB6.out.trans (hW.mono HB6.out.size)
  go_loopw [13,14,15,16,17,18] (fun k _ _ _ _ _ wr=>∃ z:Int,k=.int .i64 z∧(z=0∨z=1∨z=2∨z=3∨z=4)∧Below w6.heap.size w6 wr) (fun k _ _ _ _ _ _=>4-(intOf k).toNat)
  case atStart=>exact⟨0,rfl,.inl rfl,Below.refl _ _⟩
  case round=>
   obtain⟨z,rfl,hz,hbr⟩:=hrel
   have HR:Hid (Below w6.heap.size w6 wr):=hbr
   have HER:Hid (∀ z:Int,(z=0∨z=1)→∀ big,Calls Tryz.prog 34 #[.pointer (some ⟨m,0,none⟩),.int .i64 z,.bool big] wr fun e w'=>∃ E,e=.returned (.tuple #[.string (ba E),.int .i64 0])∧loadM isTb E=some tb∧E.length≤maxLen∧Below wr.heap.size wr w'):=fun z hz big=>enc_at wr m tb c (HM6.out.below hbr) z hz big
   by_cases h4:z=4
   ·subst h4
    obtain⟨s0,s1,s2⟩:=box3 (HX6.out wr hbr)
    have HMR:Hid (Mch wr m tb c):=HM6.out.below hbr
    clear hbr hz HER
    go_upto_region 21 with(go_at_call 36;refine(HFI.out _ _ _ HR.out HMR.out).mono ?_;rintro e w7 ⟨rfl,hb7⟩;have HB7:Hid (Below w6.heap.size w6 w7):=HR.out.trans (hb7.mono HR.out.size);clear hb7)
    clear s0 s1 s2
    obtain⟨s0,s1,s2⟩:=box3 (HX6.out w7 HB7.out)
    have HM7:Hid (Mch w7 m tb c):=HM6.out.below HB7.out
    go_wp2_with (go_at_call 36;refine(HFE.out _ _ _ HB7.out HM7.out).mono ?_;rintro e w8 ⟨rfl,hb8⟩;have HB8:Hid (Below w6.heap.size w6 w8):=HB7.out.trans (hb8.mono HB7.out.size);clear hb8)
    go_ret
    exact⟨by rfl,HEX.out _ HB8.out⟩
   ·rcases(by omega:z=0∨z=1∨z=2∨z=3) with rfl|rfl|rfl|rfl
    all_goals
     clear h4 hz hbr
     go_upto_region 14 with(go_at_call 34;refine(HER.out _ (by first|exact .inl rfl|exact .inr rfl) _).mono ?_;rintro e w7 ⟨E,rfl,hl7,hm7,hb7⟩;have HL7:Hid (loadM isTb E=some tb):=hl7;have HZ7:Hid (E.length≤maxLen):=hm7;have HB7:Hid (Below w6.heap.size w6 w7):=HR.out.trans (hb7.mono HR.out.size);clear hl7 hm7 hb7)
     have HLD:Hid (Calls Tryz.prog 35 #[.string (ba E)] w7 fun e w'=>∃ m c,e=.returned (.tuple #[.pointer (some ⟨m,0,none⟩),.int .i64 0])∧Mch w' m tb c∧w7.heap.size≤m∧Below w7.heap.size w7 w'):=load_some w7 E HZ7.out tb HL7.out
     obtain⟨eb,heb⟩:∃ eb,eb=ba E:=⟨_,rfl⟩
     rw[←heb] at HLD ⊢
     clear heb
     go_upto_region 15 with(go_at_call 35;refine HLD.out.mono ?_;rintro e w8 ⟨m8,c8,rfl,hm8,-,hb8⟩;have HM8:Hid (Mch w8 m8 tb c8):=hm8;have HB8:Hid (Below w6.heap.size w6 w8):=HB7.out.trans (hb8.mono HB7.out.size);clear hm8 hb8)
     obtain⟨s0,s1,s2⟩:=box3 (HX6.out w8 HB8.out)
     go_wp2_with (go_at_call 36;refine(HFI.out _ _ _ HB8.out HM8.out).mono ?_;rintro e w9 ⟨rfl,hb9⟩;have HB9:Hid (Below w6.heap.size w6 w9):=HB8.out.trans (hb9.mono HB8.out.size);clear hb9)
     go_roundw
     case rel=>exact⟨_,by go_num,by first|exact .inr (.inl rfl)|exact .inr (.inr (.inl rfl))|exact .inr (.inr (.inr (.inl rfl)))|exact .inr (.inr (.inr (.inr rfl))),HB9.out⟩
     case measure=>simp[intOf]<;>omega
open Go.ChangeShapes Go.WideShapes Go.ChangeAt Go.WideMaps Go.WideElems Go.RowKit
theorem found_door (os:Os) (args:Array Value):laidMetH Tryz.prog Rows.foundRow.laid ((World.doorLaid Tryz.prog 400 os).forCall (fun _ _=>0) ⟨#[],args,[]⟩).memory:=by
 rw[MakeChecks.laidMetH_plain _ _ _ (by kernel_rfl)]
 exact laidMet_of_run' 8 (by kernel_rfl) (by kernel_rfl)
theorem found_lifted (os:Os) (started:os.Started) (H:Type) (enc:TypeId×Value→H) :
  ReturnsInHanded {} Tryz.checked os 9 .any (fun w args=>(Rows.foundSpec.pre enc Tryz.prog Tryz.f9 [] false w args∧laidMetH Tryz.prog Rows.foundRow.laid w)∧sizedMet enc Tryz.prog Tryz.f9 (OpenSpec.ofChange Rows.foundSpec) false w args)
   (Rows.foundSpec.post enc Tryz.prog Tryz.f9 false true false false):=by
 refine returnsInHanded_of_change_and (C:=Tryz.checked) (X:=fun w _=>laidMetH Tryz.prog Rows.foundRow.laid w) (fun _ _ _ hh h=>h.of_heap hh) own5 started (by kernel_rfl) Tryz.func9
  (ChangeSpec.witness_shaped (enc:=enc) (C:=Tryz.checked) (os:=os) (X:=fun w _=>laidMetH Tryz.prog Rows.foundRow.laid w) false (World.doorLaid Tryz.prog 400 os) #[.slice none 0 0,.int .i64 0,.slice none 0 0] 8 rfl (World.shaped_of_RefB (by kernel_rfl) (by kernel_rfl)) (by kernel_rfl) (by kernel_rfl) (by kernel_rfl) (found_door os _)) ?_
 intro W base args ds gs before hval0 hW _ _ hL _
 have hval:∀(j:Nat) t v,Tryz.f9.params[j]?=some t→args[j]?=some v→Value.okWide Tryz.prog W .any base t v:=hval0
 have hW':=hW
 obtain⟨p,q,hA0,hV,rfl,hfz,hnd⟩:=hW
 have hA:DataW.TrodAll enc Tryz.prog W 0 (fun _=>true) true Tryz.f9.params.toList args.toList ds p:=hA0
 have hlt:=hA.lt
 rw[Tryz.params9] at hA hval
 obtain⟨v0,as1,d0,ds1,p0,q0,ha0,rfl,rfl,h0,hA1⟩:=trodAll_cons hA
 obtain⟨v1,as2,d1,ds2,p1,q1,rfl,rfl,rfl,h1,hA2⟩:=trodAll_cons hA1
 obtain⟨v2,as3,d2,ds3,p2,q2,rfl,rfl,rfl,h2,hA3⟩:=trodAll_cons hA2
 obtain⟨rfl,rfl,rfl⟩:=trodAll_nil hA3
 obtain rfl:args=#[v0,v1,v2]:=by cases args;simp_all
 obtain⟨rfl,rfl⟩:=trodVars_none hV
 obtain⟨n1,rfl,rfl,rfl,w1⟩:=open_int Tryz.underlying3 (hval 1 3 v1 rfl rfl) h1
 obtain⟨a0,l0,c0,rfl⟩:=Go.WideShapes.okWide_slice Tryz.underlying40 (hval 0 40 v0 rfl rfl)
 obtain⟨a2,l2,c2,rfl⟩:=Go.WideShapes.okWide_slice Tryz.underlying40 (hval 2 40 v2 rfl rfl)
 have h0':=h0
 have h2':=h2
 obtain⟨f0,k0⟩:=h0
 obtain⟨f2,k2⟩:=h2
 obtain⟨v,l,e0,hraw⟩:=open_raw k0
 obtain⟨u,m,e2,hraw2⟩:=open_raw k2
 obtain rfl:v=.slice a0 l0 c0:=by simpa [Value.cells] using e0.symm
 obtain rfl:u=.slice a2 l2 c2:=by simpa [Value.cells] using e2.symm
 obtain⟨hT,hZ⟩:=spoilt_laid hL
 clear hA0 hval0
 refine(found_any W _ _ l m n1 hT hZ hraw hraw2 (wf_rg w1)).mono fun e W' ⟨he,bel⟩=>?_
 subst he
 exact⟨_,rfl,_,_,_,[],_,[],hW',trodAll_mk1 (shut_bool Tryz.underlying4 _),trodAll_cons_mk (Trod_stays (by kernel_rfl) (by kernel_rfl) (of_decide_eq_true (by kernel_rfl)) h0' (fun x hx=>same_at bel (hlt x (by simp[hx]))) (fun x hx=>by simpa using hlt x (by simp[hx]))) (trodAll_cons_mk (shut_int Tryz.underlying3 w1) (trodAll_mk1 (Trod_stays (by kernel_rfl) (by kernel_rfl) (of_decide_eq_true (by kernel_rfl)) h2' (fun x hx=>same_at bel (hlt x (by simp[hx]))) (fun x hx=>by simpa using hlt x (by simp[hx]))))),rfl,bel.frame _,fun h=>by cases h⟩
theorem found_said:Rows.FoundSaid:=
 OpenClaim.holds_of_wide 9 Tryz.f9 rfl rfl rfl rfl rfl rfl rfl ⟨rfl,rfl,rfl,rfl,rfl⟩ rfl rfl rfl rfl rfl (by kernel_rfl) Tryz.func9 (by kernel_rfl)
  (of_decide_eq_true (by kernel_rfl)) (by unfold Func.isWrapper;first|(rw[if_pos (by decide +kernel)];kernel_rfl)|(rw[if_neg (by decide +kernel)];exact⟨rfl,rfl⟩))
  (fun os started H enc _=>found_lifted os started H enc)
end Go.Proofs.YtbjabpodkaokjaaGreatDoor

import Derived.Test.YtbjabpodkaokjaaGreatDoorJ24
set_option linter.unusedVariables false
set_option linter.unusedSimpArgs false
set_option maxHeartbeats 4000000
set_option maxRecDepth 100000
namespace Go.Proofs.YtbjabpodkaokjaaGreatDoor
open Go.RowKit
open Sx (Prt Cnt)
theorem times_endless (p:Prt) (hok:TrOk p) (hp:PartK p) (L:Nat) (hM30:L≤30) (w w1:World) (sb:Nat) (vb vf:Value) (e:Ex) (n:Nat) (s:Sx.SixV) (h:Beg w sb vb vf e n (spP p*(L+1))) (ht:TR 3 sb w vb vf w1 vb vf e) (hb:TB w1 w.heap.size s 123 L (-1)) (hew:w1=tW w s 123 L (-1)) (hR:Sx.RepP w (fun g=>g<sb) p s.cells) (r0:Pc) (e0:Ex) (hr0:r0=(exP p e).1.may) (he0:e0=(exP p e).2.join (exP p e).1 (exP p e).1) :
  Calls Tryz.prog 199 #[.pointer (some ⟨sb,0,none⟩),s.val,.agg #[.int .u8 123,.int .i64 L,.int .i64 (-1)]] w (MkRes sb w vb vf (braceM (exP p) L L r0 e0)):=by
 have hs1:w1.heap.size=w.heap.size+3:=by rw[hew];simp
 have HH:Hid (Beg w sb vb vf e n (spP p*(L+1))):=h
 have HW:Hid (w1=((w.alloc (.cells #[.slice s.q0 s.q1 s.q2,.int .u64 s.y0,.int .u64 s.y1,.int .u64 s.y2,.int .u64 s.y3,.slice s.r0 s.r1 s.r2] 231)).alloc (.cells #[.int .u8 123,.int .i64 L,.int .i64 (-1)] 282)).alloc (.cells zC 152)):=hew
 have HBS:Hid (∀ cs r,cs=pcC r→BS sb w vb vf (w1.alloc (.cells cs 152)) vb vf e r s L (-1)):=fun cs r hc=>bs_new ht (fun b hb=>h.lt hb) hs1 hb hc
 have HR:Hid (Sx.RepP w (fun g=>g<sb) p s.cells):=hR
 have hl1:spP p*(L+1)=spP p*L+spP p:=Nat.mul_succ _ _
 have HR0:Hid (r0=(exP p e).1.may∧e0=(exP p e).2.join (exP p e).1 (exP p e).1):=⟨hr0,he0⟩
 have hpok0:=exP_ok p hok n e (by have:=h.le;omega) h.ok
 have HLE:Hid (n+spP p+spP p*L≤64):=by have:=h.le;show _≤_;omega
 clear hew h ht hb hR hr0 he0 hl1
 go_enter Tryz.func199,Tryz.ntmps199
 go_wp2
 go_region
 rw[←HW.out]
 obtain⟨W0,hW0⟩:∃ W0,W0=(w1.alloc (.cells #[.int .u64 0,.int .u64 0,.int .u64 0,.int .u64 0,.int .u64 0,.int .u64 0,.int .u64 0,.int .u64 0,.bool true] 152)).drew:=⟨_,rfl⟩
 rw[←hW0]
 have hB0:=(HBS.out #[.int .u64 0,.int .u64 0,.int .u64 0,.int .u64 0,.int .u64 0,.int .u64 0,.int .u64 0,.int .u64 0,.bool true] pcN rfl).below (show Below _ _ (w1.alloc (.cells #[.int .u64 0,.int .u64 0,.int .u64 0,.int .u64 0,.int .u64 0,.int .u64 0,.int .u64 0,.int .u64 0,.bool true] 152)).drew from(Below.refl _ _).drew)
 rw[←hW0] at hB0
 have HBZ:Hid (BS sb w vb vf W0 vb vf e pcN s L (-1)):=hB0
 obtain⟨p0,p1,p2,p3,p4,p5⟩:=box6' hB0.tb.k0
 obtain⟨c0,c1,c2⟩:=box3 hB0.tb.k1
 have hbeg0:Beg W0 sb vb vf e n (spP p):=hB0.tr.beg HH.out HH.out.ok (by have:=HLE.out;omega)
 have hpart:=hp W0.drew sb vb vf e n s (hbeg0.below (Below.refl _ _).drew) (repP_keep HR.out ((hB0.tr.bl HH.out).trans (Below.refl _ _).drew))
 obtain⟨X,hX⟩:∃ X,X=exP p e:=⟨_,rfl⟩
 rw[←hX] at hpart hpok0
 have HX:Hid (r0=X.1.may∧e0=X.2.join X.1 X.1):=by rw[hX];exact HR0.out
 have HBD:Hid (BS sb w vb vf W0.drew vb vf e pcN s L (-1)):=hB0.below (Below.refl _ _).drew
 have HPOK:Hid (ExOk (n+spP p) X.2∧Pcs (n+spP p) X.1):=hpok0
 clear hB0 hW0 hbeg0 hX hpok0 HR0
 go_upto_region 10 with(fail)
 go_cut [8] from 37 to 44 (fun u8 wc=>u8=.int .i64 L∧∃ vb2 vf2,BS sb w vb vf wc vb2 vf2 e0 r0 s L (-1))
 case first=>
  go_region_with (first|(go_at_call 210;refine(maybe_any w3 X.1).mono ?_;rintro r w4 ⟨rfl,hb4⟩;have HB4:Hid (BS sb w vb vf w4 vb2 vf2 (X.2.join X.1 X.1) pcN s L (-1)):=HB3.out.below hb4;obtain⟨f0,f1,f2,f3,f4,f5,f6,f7,f8⟩:=box9 HB4.out.rb;obtain⟨h0,h1,h2⟩:=box3 HB4.out.tb.k1;have ff:=HB4.out.fz;clear hb4)|(go_at_call 211;refine(again_any w2 sb vb2 vf2 X.2 X.1 (n+spP p) (HB2.out.tr.tz HH.out) HH.out.s1 HB2.out.tr.at_ (by have:=HLE.out;omega) HPOK.out.1 HPOK.out.2).mono ?_;rintro r w3 ⟨rfl,hx3,hg3⟩;have HB3:Hid (BS sb w vb vf w3 vb2 vf2 (X.2.join X.1 X.1) pcN s L (-1)):=HB2.out.call hx3 hg3;obtain⟨h0,h1,h2⟩:=box3 HB3.out.tb.k1;clear hx3 hg3)|(go_at_call 176;refine hpart.mono ?_;rintro r w2 ⟨rfl,vb2,vf2,hx2,hg2⟩;have HB2:Hid (BS sb w vb vf w2 vb2 vf2 X.2 pcN s L (-1)):=HBD.out.call hx2 hg2;obtain⟨g0,g1,g2⟩:=box3 HB2.out.tb.k1;clear hx2 hg2))
  all_goals (
   obtain⟨W,hW⟩:∃ W,W=S9 w4 (w.heap.size+1+1+1) X.1.may:=⟨_,rfl⟩
   have hW2:=hW
   simp only[S9] at hW2
   rw[←hW2]
   have HB5:Hid (BS sb w vb vf W vb2 vf2 e0 r0 s L (-1)):=by rw[HX.out.1,HX.out.2,hW];exact HB4.out.put _
   clear hW hW2 f0 f1 f2 f3 f4 f5 f6 f7 f8 ff
   go_wp2
   go_meet
   exact⟨rfl,vb2,vf2,HB5.out⟩)
 case rest=>
  obtain⟨rfl,vb2,vf2,hcb⟩:=hcut
  have HB0:Hid (BS sb w vb vf wc vb2 vf2 e0 r0 s L (-1)):=hcb
  have HOK0:Hid (BOk (n+spP p) e0 r0):=by
   rw[HX.out.1,HX.out.2]
   exact⟨HPOK.out.1.join HPOK.out.2,HPOK.out.2.may⟩
  clear p0 p1 p2 p3 p4 p5 c0 c1 c2 hpart HBZ HBD HPOK HX HBS
  obtain⟨c0,c1,c2⟩:=box3 hcb.tb.k1
  clear hcb
  have HOK1:Hid (∀ k,k≤L-L→BOk ((n+spP p)+spP p*k) (iterM (fun r=>mayM (ontoM (exP p) r)) k r0 e0).2 (iterM (fun r=>mayM (ontoM (exP p) r)) k r0 e0).1):=fun k hk=>by
   have:=iterM_ok (g:=fun r=>mayM (ontoM (exP p) r)) (k:=spP p) (fun n e r hn he hr=>⟨(ontoM_ok (exP_ok p hok) hn he hr).1,(ontoM_ok (exP_ok p hok) hn he hr).2.may⟩) k (n+spP p) e0 r0 (by have:=HLE.out;have:spP p*k≤spP p*L:=Nat.mul_le_mul_left _ (by omega);omega) HOK0.out.e HOK0.out.r
   exact⟨this.1,this.2⟩
  go_wp2
  go_loopw [49] (fun i wr=>∃(k:Nat) (vb' vf':Value),k≤L-L∧i=.int .i64 k∧BS sb w vb vf wr vb' vf' (iterM (fun r=>mayM (ontoM (exP p) r)) k r0 e0).2 (iterM (fun r=>mayM (ontoM (exP p) r)) k r0 e0).1 s L (-1)) (fun i _=>L-L-(intOf i).toNat)
  case atStart=>exact⟨0,_,_,by omega,rfl,HB0.out⟩
  case round=>
   clear c0 c1 c2
   obtain⟨k,vb1,vf1,hk,rfl,hbs⟩:=hrel
   have hbok:=HOK1.out k hk
   have HIT:Hid (iterM (fun r=>mayM (ontoM (exP p) r)) (k+1) r0 e0=(((exP p (iterM (fun r=>mayM (ontoM (exP p) r)) k r0 e0).2).1.join (iterM (fun r=>mayM (ontoM (exP p) r)) k r0 e0).1).may,(exP p (iterM (fun r=>mayM (ontoM (exP p) r)) k r0 e0).2).2.join (exP p (iterM (fun r=>mayM (ontoM (exP p) r)) k r0 e0).2).1 (iterM (fun r=>mayM (ontoM (exP p) r)) k r0 e0).1)):=by show _=_;rw[iterM_succ];rfl
   have HEND:Hid (k=L-L→iterM (fun r=>mayM (ontoM (exP p) r)) (L-L) r0 e0=((iterM (fun r=>mayM (ontoM (exP p) r)) k r0 e0).1,(iterM (fun r=>mayM (ontoM (exP p) r)) k r0 e0).2)):=fun hk=>by rw[hk]
   obtain⟨A,hA⟩:∃ A,A=(iterM (fun r=>mayM (ontoM (exP p) r)) k r0 e0).1:=⟨_,rfl⟩
   obtain⟨E,hE⟩:∃ E,E=(iterM (fun r=>mayM (ontoM (exP p) r)) k r0 e0).2:=⟨_,rfl⟩
   rw[←hA,←hE] at hbs hbok HIT HEND
   have HBK:Hid (BS sb w vb vf wr vb1 vf1 E A s L (-1)):=hbs
   have HBOK:Hid (BOk ((n+spP p)+spP p*k) E A):=hbok
   obtain⟨p0,p1,p2,p3,p4,p5⟩:=box6' hbs.tb.k0
   obtain⟨c0,c1,c2⟩:=box3 hbs.tb.k1
   obtain⟨b0,b1,b2,b3,b4,b5,b6,b7,b8⟩:=box9 hbs.rb
   by_cases hlt:k<L-L
   ·omega
   ·have hkI:¬(k:Int)<0:=by omega
    have hkD:k=L-L:=by omega
    have HBR:Hid (braceM (exP p) L L r0 e0=iterM (ontoM (exP p)) L A E):=by
     show _=_
     unfold braceM
     rw[HEND.out hkD]
    have hn1:(n+spP p)+spP p*k+spP p*L≤64:=by
     have:=HLE.out
     have h2:spP p*k+spP p*L=spP p*L:=by rw[←Nat.mul_add];congr 1;omega
     omega
    have HOK2:Hid (∀ j,j≤L→BOk ((n+spP p)+spP p*k+spP p*j) (iterM (ontoM (exP p)) j A E).2 (iterM (ontoM (exP p)) j A E).1):=fun j hj=>by
     have:=iterM_ok (g:=ontoM (exP p)) (k:=spP p) (fun n e r hn he hr=>ontoM_ok (exP_ok p hok) hn he hr) j ((n+spP p)+spP p*k) E A (by have:spP p*j≤spP p*L:=Nat.mul_le_mul_left _ hj;omega) HBOK.out.e HBOK.out.r
     exact⟨this.1,this.2⟩
    have HN1:Hid ((n+spP p)+spP p*k+spP p*L≤64):=hn1
    obtain⟨n1,hn1e⟩:∃ n1,n1=(n+spP p)+spP p*k:=⟨_,rfl⟩
    rw[←hn1e] at HOK2 HN1
    clear hbs hbok hA hE HIT HEND hn1 hn1e p0 p1 p2 p3 p4 p5 b0 b1 b2 b3 b4 b5 b6 b7 b8
    go_wp2
    rename World=>wx
    go_loopw [61] (fun i wr=>∃(j:Nat) (vb' vf':Value),j≤L∧i=.int .i64 j∧BS sb w vb vf wr vb' vf' (iterM (ontoM (exP p)) j A E).2 (iterM (ontoM (exP p)) j A E).1 s L (-1)) (fun i _=>L-(intOf i).toNat)
    case atStart=>exact⟨0,_,_,by omega,rfl,HBK.out⟩
    case round=>
     clear c0 c1 c2
     obtain⟨j,vb1',vf1',hj,rfl,hbs⟩:=hrel
     have hbok:=HOK2.out j hj
     have HIT:Hid (iterM (ontoM (exP p)) (j+1) A E=((exP p (iterM (ontoM (exP p)) j A E).2).1.join (iterM (ontoM (exP p)) j A E).1,(exP p (iterM (ontoM (exP p)) j A E).2).2.join (exP p (iterM (ontoM (exP p)) j A E).2).1 (iterM (ontoM (exP p)) j A E).1)):=by show _=_;rw[iterM_succ];rfl
     have HEND:Hid (j=L→iterM (ontoM (exP p)) L A E=((iterM (ontoM (exP p)) j A E).1,(iterM (ontoM (exP p)) j A E).2)):=fun hk=>by rw[hk]
     obtain⟨A2,hA⟩:∃ A2,A2=(iterM (ontoM (exP p)) j A E).1:=⟨_,rfl⟩
     obtain⟨E2,hE⟩:∃ E2,E2=(iterM (ontoM (exP p)) j A E).2:=⟨_,rfl⟩
     rw[←hA,←hE] at hbs hbok HIT HEND
     have HBK2:Hid (BS sb w vb vf wr vb1' vf1' E2 A2 s L (-1)):=hbs
     have HBOK2:Hid (BOk (n1+spP p*j) E2 A2):=hbok
     obtain⟨p0,p1,p2,p3,p4,p5⟩:=box6' hbs.tb.k0
     obtain⟨b0,b1,b2,b3,b4,b5,b6,b7,b8⟩:=box9 hbs.rb
     obtain⟨z0,z1,z2,z3,z4,z5,z6,z7,z8⟩:=box9z hbs.tb.k2
     have zf:=hbs.tb.zf
     by_cases hlj:j<L
     ·have hljI:(j:Int)<L:=by omega
      have hle:n1+spP p*j+spP p≤64:=by
       have:=HN1.out
       have h2:spP p*(j+1)≤spP p*L:=Nat.mul_le_mul_left _ (by omega)
       rw[Nat.mul_succ] at h2
       omega
      have hbeg:Beg wr sb vb1' vf1' E2 (n1+spP p*j) (spP p):=hbs.tr.beg HH.out hbok.e hle
      have hpart:=hp wr.drew sb vb1' vf1' E2 (n1+spP p*j) s (hbeg.below (Below.refl _ _).drew) (repP_keep HR.out ((hbs.tr.bl HH.out).trans (Below.refl _ _).drew))
      have hpok:=exP_ok p hok (n1+spP p*j) E2 hle hbok.e
      obtain⟨X,hX⟩:∃ X,X=exP p E2:=⟨_,rfl⟩
      rw[←hX] at hpart hpok HIT
      have HBD:Hid (BS sb w vb vf wr.drew vb1' vf1' E2 A2 s L (-1)):=hbs.below (Below.refl _ _).drew
      have HPOK:Hid (ExOk (n1+spP p*j+spP p) X.2∧Pcs (n1+spP p*j+spP p) X.1):=hpok
      have HLK:Hid (n1+spP p*j+spP p≤64):=hle
      clear hbs hbok hpok hX hA hE hle hbeg HEND z0 z1 z2 z3 z4 z5 z6 z7 z8 zf
      go_wp2
      go_region_with (first|(go_at_call 175;refine(join_any w2 sb vb2 vf2 X.2 X.1 A2 (n1+spP p*j+spP p) (HB2.out.tr.tz HH.out) HH.out.s1 HB2.out.tr.at_ HLK.out HPOK.out.1 HPOK.out.2 (HBOK2.out.r.mono (by omega))).mono ?_;rintro r w3 ⟨rfl,hx3,hg3⟩;have HB3:Hid (BS sb w vb vf w3 vb2 vf2 (X.2.join X.1 A2) A2 s L (-1)):=HB2.out.call hx3 hg3;obtain⟨f0,f1,f2,f3,f4,f5,f6,f7,f8⟩:=box9 HB3.out.rb;have ff:=HB3.out.fz;clear hx3 hg3)|(go_at_call 176;refine hpart.mono ?_;rintro r w2 ⟨rfl,vb2,vf2,hx2,hg2⟩;have HB2:Hid (BS sb w vb vf w2 vb2 vf2 X.2 A2 s L (-1)):=HBD.out.call hx2 hg2;obtain⟨g0,g1,g2,g3,g4,g5,g6,g7,g8⟩:=box9 HB2.out.rb;clear hx2 hg2))
      all_goals (
       obtain⟨W,hW⟩:∃ W,W=S9 w3 (w.heap.size+1+1+1) (X.1.join A2):=⟨_,rfl⟩
       have hW2:=hW
       simp only[S9] at hW2
       rw[←hW2]
       have HB5:Hid (BS sb w vb vf W vb2 vf2 (X.2.join X.1 A2) (X.1.join A2) s L (-1)):=by rw[hW];exact HB3.out.put _
       clear hW hW2 f0 f1 f2 f3 f4 f5 f6 f7 f8 ff
       go_wp2
       go_roundw
       case rel=>exact⟨j+1,vb2,vf2,by omega,by go_num,by rw[HIT.out];exact HB5.out⟩
       case measure=>simp[intOf]<;>omega)
     ·have hjI:¬(j:Int)<L:=by omega
      have hjL:j=L:=by omega
      have HFIN:Hid (braceM (exP p) L L r0 e0=(A2,E2)):=by show _=_;rw[HBR.out,HEND.out hjL]
      clear hbs hbok hA hE HIT HEND hjL p0 p1 p2 p3 p4 p5
      go_wp2
      obtain⟨W,hW⟩:∃ W,W=S9 wr (w.heap.size+1+1) A2:=⟨_,rfl⟩
      have hW2:=hW
      simp only[S9] at hW2
      rw[←hW2]
      have hq:W.heap[w.heap.size+1+1]?=some (.cells (pcC A2) 152):=by rw[hW];exact S9_own _ HBK2.out.tb.k2
      obtain⟨r0,r1,r2,r3,r4,r5,r6,r7,r8⟩:=box9 hq
      refine bodyPost_ret (v:=pcV A2) (by simp[results,Tryz.results199,go_sem,r0,r1,r2,r3,r4,r5,r6,r7,r8]) rfl ?_
      rw[HFIN.out]
      have hfin:=HBK2.out.tr.put (q:=w.heap.size+1+1) (by omega) (by omega) A2
      rw[←hW] at hfin
      exact⟨rfl,vb1',vf1',hfin.at_,hfin.gr⟩
end Go.Proofs.YtbjabpodkaokjaaGreatDoor

import Derived.Test.YtbjabpodkaokjaaGreatDoorDRi01
import Derived.Test.YtbjabpodkaokjaaGreatDoorKRi02
import Derived.Test.YtbjabpodkaokjaaGreatDoorJ11
import Derived.BigRegion
set_option linter.unusedVariables false
set_option linter.unusedSimpArgs false
set_option maxHeartbeats 4000000
set_option maxRecDepth 100000
namespace Go.Proofs.YtbjabpodkaokjaaGreatDoor
open Go.RowKit
def dif (acc:List Bool) (j k:Nat):Bool:=acc.getD j false != acc.getD k false
def nxT (t:Tb) (i d:Nat):Nat:=((t.next.getD i []).getD d 0).toNat
theorem told_any (w:World) (t:Tb) (c:Nat) (va vn:Value) (h:TabIn w t va vn) (hok:TbOk t c) :
  Calls Tryz.prog 24 #[tv t va vn] w fun e w'=>∃ A cap gs M,e=.returned (.slice (some ⟨A,0,none⟩) t.acc.length cap)∧MX (w.heap.size+1) (w.alloc (.cells #[.bool t.front,.bool t.back,.int .i64 t.start,.string (ba t.cls),va,vn] 33)) w' t.acc.length A gs M∧(∀ a b,a<t.acc.length→b<t.acc.length→dif t.acc a b=true→M a b=true)∧Clo t.acc.length c (nxT t) M∧Below w.heap.size w w':=by
 have hc256:c≤256:=hok.c256.1
 obtain⟨f,b,st,cls,acc,next⟩:=t
 obtain⟨a1,a2,n1,s1,s2,cc,hr⟩:=hok
 obtain⟨ha,⟨us,hul,hu,hrow⟩⟩:=h
 simp only at *
 obtain⟨a,ca,rfl⟩:=ha.form
 obtain⟨an,cn,rfl⟩:=hu.form
 rw[hul,n1] at hu ⊢
 obtain⟨n,hn⟩:∃ n,n=acc.length:=⟨_,rfl⟩
 rw[←hn] at hu n1 a1 a2 s2 hr ⊢
 obtain⟨ob,hob⟩:∃ ob:Obj,ob=.cells #[.bool f,.bool b,.int .i64 st,.string (ba cls),.slice a n ca,.slice an n cn] 33:=⟨_,rfl⟩
 obtain⟨w1,hw1⟩:∃ w1,w1=w.alloc ob:=⟨_,rfl⟩
 have hB1:Below w.heap.size w w1:=by rw[hw1];exact(Below.refl _ _).alloc (Nat.le_refl _) _
 have hz1:w1.heap.size=w.heap.size+1:=by rw[hw1];simp
 have HX:Hid (∀ w',Below w1.heap.size w1 w'→w'.heap[w.heap.size]?=some (.cells #[.bool f,.bool b,.int .i64 st,.string (ba cls),.slice a n ca,.slice an n cn] 33)):=fun w' hb=>by
  rw[hb.block _ (by omega),hw1,←hob]
  exact heap_alloc_new w _
 have HW1:Hid (w1=w.alloc (.cells #[.bool f,.bool b,.int .i64 st,.string (ba cls),.slice a n ca,.slice an n cn] 33)):=by rw[hob] at hw1;exact hw1
 have HST:Hid (∀ w',Below w1.heap.size w1 w'→Below w.heap.size w w'):=fun w' hb=>hB1.trans (hb.mono (by omega))
 have HA:Hid (RowE eB w (.slice a n ca) acc):=by show RowE _ _ _ _;rw[hn];exact ha
 have HN:Hid (n=acc.length):=hn
 obtain⟨iB,hiB,hzB,hz1B,hz2B⟩:=info_parts Tryz.infoQB
 obtain⟨iL,hiL,hzL,hz1L,hz2L⟩:=info_parts Tryz.infoQL
 have hmk:=fun w0=>make_eq Tryz.underlying30 hiB hzB hz1B hz2B n (by omega) (by unfold maxLen;omega) w0
 obtain⟨D,hD⟩:∃ D,D=dif acc:=⟨_,rfl⟩
 have HD:Hid (D=dif acc):=hD
 have HT0:Hid (TO w1.heap.size w1 w1 n D (.slice none 0 0) []):=⟨Below.refl _ _,Nat.le_refl _,World.ownsRow_nil _ _ _ _,fun j hj=>by simp at hj,fun j hj=>by simp at hj,by simp,fun g hg=>by simp[Value.ownBlock] at hg⟩
 obtain⟨nxt,hnxt⟩:∃ nxt,nxt=nxT ⟨f,b,st,cls,acc,next⟩:=⟨_,rfl⟩
 have HNX:Hid (nxt=nxT ⟨f,b,st,cls,acc,next⟩):=hnxt
 obtain⟨b0,o0,q0,hf0,hcell0⟩:=hu.nonnil (by omega)
 injection hf0 with e1 e2 e3
 subst e1
 have HRX:Hid (∀ W,Below w1.heap.size w1 W→∀ i,i<n→∃ ra rc,W.cell? ⟨b0,o0+i,none⟩=some (.slice ra c rc)∧(0<c→∃ b3 o3,ra=some ⟨b3,o3,none⟩∧∀ z,z<c→W.cell? ⟨b3,o3+z,none⟩=some (.int .i64 (nxt i z:Int))∧nxt i z<n)):=fun W hW i hi=>by
  have hb:=hB1.trans (hW.mono (by omega))
  have hi1:i<us.length:=by omega
  have hi2:i<next.length:=by omega
  have h1:=cell_below hb (hcell0 i hi1)
  simp only[id] at h1
  have h2:=(hrow i hi1 hi2).below hb
  obtain⟨h3,h4⟩:=hr next[i] (List.getElem_mem hi2)
  obtain⟨ra,rc,he⟩:=h2.form
  rw[h3] at he
  refine⟨ra,rc,by rw[h1,he],fun hc=>?_⟩
  obtain⟨b3,o3,x3,hf3,hc3⟩:=h2.nonnil (by omega)
  rw[he] at hf3
  injection hf3 with f1 _ _
  refine⟨b3,o3,f1,fun z hz=>?_⟩
  have hz':z<next[i].length:=by omega
  have h5:=h4 _ (List.getElem_mem hz')
  have h6:nxt i z=(next[i][z]).toNat:=by rw[hnxt];simp[nxT,hi2,hz']
  rw[hc3 z hz',h6]
  exact⟨by show some (eI _)=_;rw[Int.toNat_of_nonneg h5.1],by omega⟩
 clear hw1 hob hB1 ha hn hD hnxt hcell0 e2 e3
 go_enter Tryz.func24,Tryz.ntmps24
 go_wp2
 rw[←HW1.out]
 go_loopw [4,5,6,7] (fun o i _ _ wr=>∃(gs:List Nat) (vo:Value),vo=o∧i=.int .i64 gs.length∧gs.length≤n∧TO w1.heap.size w1 wr n D vo gs) (fun _ i _ _ _=>n-(intOf i).toNat)
 case atStart=>exact⟨[],_,rfl,rfl,Nat.zero_le _,HT0.out⟩
 case round=>
  obtain⟨gs,vo,rfl,rfl,hk,hto⟩:=hrel
  obtain⟨m,hm⟩:∃ m,m=gs.length:=⟨_,rfl⟩
  have HM:Hid (m=gs.length):=hm
  rw[←hm] at hk ⊢
  have HTO:Hid (TO w1.heap.size w1 wr n D vo gs):=hto
  clear hm hto
  by_cases hlt:m<n
  ·have hltI:(m:Int)<n:=by omega
   rename World=>wo
   go_wp2
   obtain⟨w3,hw3⟩:∃ w3,w3=wo.alloc (.cells (mkA n (.bool false)) 4):=⟨_,rfl⟩
   rw[←hw3]
   obtain⟨q,hq⟩:∃ q,q=wo.heap.size:=⟨_,rfl⟩
   rw[←hq]
   have hal:Below wo.heap.size wo w3:=by rw[hw3];exact(Below.refl _ _).alloc (Nat.le_refl _) _
   have HT3:Hid (TO w1.heap.size w1 w3 n D vo gs∧Nw w3 q n (fun x=>.bool (decide (x<0)&&D m x))∧q<w3.heap.size):=⟨HTO.out.below hal,by
    rw[hw3,hq]
    exact(Nw.new wo n (.bool false) rfl 4).congr (fun j _=>by simp),by rw[hw3,hq];simp⟩
   have HQ:Hid (w1.heap.size≤q∧q ∉ gs∧vo.ownBlock≠some q):=⟨by rw[hq];exact HTO.out.bl.size,fun e=>by
    obtain⟨j,hj,e2⟩:=List.mem_iff_getElem.1 e
    have:=(HTO.out.lo j hj).2
    omega,fun e=>by have:=own_lt HTO.out.ow e;omega⟩
   clear hal hw3 hq HTO
   go_loopw [7] (fun j wr=>∃ k:Nat,j=.int .i64 k∧k≤n∧TO w1.heap.size w1 wr n D vo gs∧Nw wr q n (fun x=>.bool (decide (x<k)&&D m x))∧q<wr.heap.size) (fun j _=>n-(intOf j).toNat)
   case atStart=>exact⟨0,rfl,Nat.zero_le _,HT3.out⟩
   case round=>
    obtain⟨k,rfl,hk2,hto2,hnw2,hq2⟩:=hrel
    have HT2:Hid (TO w1.heap.size w1 wr n D vo gs):=hto2
    have HN2:Hid (Nw wr q n (fun x=>.bool (decide (x<k)&&D m x))):=hnw2
    have HQ2:Hid (q<wr.heap.size):=hq2
    by_cases hlt2:k<n
    ·have hltJ:(k:Int)<n:=by omega
     have hb:=HST.out wr hto2.bl
     obtain⟨-,-,-,-,p4,-⟩:=box6 (HX.out wr hto2.bl)
     have hm1:m<acc.length:=by have:=HN.out;omega
     have hk1:k<acc.length:=by have:=HN.out;omega
     obtain⟨b1,o1,x1,hform,hcell⟩:=(HA.out.below hb).nonnil (by omega)
     injection hform with e1 e2 e3
     subst e1
     have d1:=hcell m hm1
     have d2:=hcell k hk1
     have d3:=hnw2.c k hlt2
     have d4:=hnw2.fz
     have HDM:Hid (D m k=(acc[m] != acc[k])):=by show _=_;rw[HD.out];simp[dif,hm1,hk1]
     obtain⟨z1,hz1'⟩:∃ z1,z1=acc[m]:=⟨_,rfl⟩
     obtain⟨z2,hz2'⟩:∃ z2,z2=acc[k]:=⟨_,rfl⟩
     rw[←hz1'] at d1 HDM
     rw[←hz2'] at d2 HDM
     clear hto2 hnw2 hq2 hb hcell e2 e3 hz1' hz2' hm1 hk1
     go_wp2
     go_region
     go_wp2
     go_roundw
     case rel=>
      refine⟨k+1,by go_num,by omega,(HT2.out.set (o:=k) (v:=.bool (!(z1==z2))) HQ.out.1 HQ.out.2.1 HQ.out.2.2).below (Below.refl _ _).drew,?_,by show q<(wr.setCell _ _).heap.size;rw[size_set'];exact HQ2.out⟩
      refine((HN2.out.set k hlt2 (.bool (!(z1==z2)))).congr (fun x hx=>?_)).of_block rfl
      by_cases e:x=k
      ·subst e
       have:=HDM.out
       simp[this,bne]
      ·rw[if_neg e]
       by_cases e2:x<k
       ·simp[e2,Nat.lt_succ_of_lt e2]
       ·have e3:¬ x<k+1:=by omega
        simp[e2,e3]
     case measure=>simp[intOf]<;>omega
    ·have hkJ:¬(k:Int)<n:=by omega
     have HKN:Hid (k=n):=by show _=_;omega
     have hgl:gs.length≤199:=by have:=HM.out;omega
     have hszr:w1.heap.size≤wr.heap.size:=hto2.bl.size
     have HNQ:Hid (Nw wr q n (fun x=>.bool (D gs.length x))):=hnw2.congr (fun x hx=>by
      have h1:x<k:=by omega
      simp[h1,HM.out])
     clear hto2 hnw2 hq2
     go_wp2_with (at_builtin;refine wpList_append_str _ rfl (.tmp 41) (.tmp 43) 41 rfl w1.heap.size 30 iL _ 1 24 Tryz.underlying41 hiL hzL hz1L hz2L rfl (by decide) vo gs.length (gs.map (rowV n)) rfl (World.ownsRow.alloc HT2.out.ow _) ⟨wr.heap.size,0,none⟩ 1 1 [.slice (some ⟨q,0,none⟩) n n] rfl rfl (World.news_of_block (heap_alloc_new wr _)) (by simp[Value.oneCell']) (by omega) (by unfold maxLen;omega) (by omega) (by simp;omega) _ rfl ?_;intro g6 k6 w6 ho6 hc6 hl6;have HA6:Hid (TO w1.heap.size w1 w6 n D (.slice (some ⟨g6,0,none⟩) (gs.length+1) k6) (gs++[q])):=HT2.out.app HNQ.out ⟨HQ.out.1,HQ2.out⟩ HQ.out.2.1 HQ.out.2.2 ((Below.refl _ _).alloc (Nat.le_refl _) _) ho6 rfl hc6;clear ho6 hc6)
     go_roundw
     case rel=>exact⟨gs++[q],_,rfl,by rw[show(gs++[q]).length=m+1 by simp[HM.out]];go_num,by rw[show(gs++[q]).length=m+1 by simp[HM.out]];omega,HA6.out⟩
     case measure=>simp[intOf]<;>omega
  ·have hkI:¬(m:Int)<n:=by omega
   obtain⟨A,cap,rfl,hmx⟩:=HTO.out.mx (by have:=HM.out;omega) (by omega)
   have HMX:Hid (MX w1.heap.size w1 wr n A gs D):=hmx
   clear hmx HTO
   go_wp2
   clear hkI hlt hk HM
   rename World=>wa
   go_loopw [8,9,10,11] (fun ag _ _ _ wr=>∃(g:Bool) (M:Nat→Nat→Bool),ag=.bool g∧MX w1.heap.size w1 wr n A gs M∧(∀ a b,a<n→b<n→D a b=true→M a b=true)∧(g=false→Clo n c nxt M)) (fun ag _ _ _ wr=>2*falses n (fun a b=>boolAt wr (gs.getD a 0) b)+(match ag with|.bool true=>1|_=>0))
   case atStart=>exact⟨true,D,rfl,HMX.out,fun _ _ _ _ h=>h,fun h=>by cases h⟩
   case round=>
    clear HMX
    obtain⟨g,M0,rfl,hmx0,hd0,hcl0⟩:=hrel
    have HX0:Hid (MX w1.heap.size w1 wr n A gs M0):=hmx0
    have HD0:Hid (∀ a b,a<n→b<n→D a b=true→M0 a b=true):=hd0
    have HF0:Hid (falses n (fun a b=>boolAt wr (gs.getD a 0) b)=falses n M0):=hmx0.falses
    cases g with
    |false=>
     have HC0:Hid (Clo n c nxt M0):=hcl0 rfl
     clear hmx0 hd0 hcl0
     go_wp2
     go_ret
     refine⟨A,cap,gs,M0,rfl,?_,fun a b ha hb h=>HD0.out a b ha hb (by rw[HD.out];exact h),by rw[←HNX.out];exact HC0.out,HST.out _ HX0.out.bl⟩
     rw[←hz1,←HW1.out]
     exact HX0.out
    |true=>
     clear hmx0 hd0 hcl0
     rename World=>wb
     go_wp2
     go_loopw [8,9,10,11] (fun ag i _ _ wr=>∃(g:Bool) (M:Nat→Nat→Bool) (x:Nat),ag=.bool g∧i=.int .i64 x∧x≤n∧MX w1.heap.size w1 wr n A gs M∧SW n c nxt M0 M g x 0 0) (fun _ i _ _ _=>n-(intOf i).toNat)
     case atStart=>exact⟨false,M0,0,rfl,rfl,Nat.zero_le _,HX0.out,SW.start _ _ _ _⟩
     case round=>
      obtain⟨g1,M1,x,rfl,rfl,hx,hmx1,hsw1⟩:=hrel
      have HX1:Hid (MX w1.heap.size w1 wr n A gs M1):=hmx1
      have HS1:Hid (SW n c nxt M0 M1 g1 x 0 0):=hsw1
      clear hmx1 hsw1
      by_cases hxl:x<n
      ·have hxI:(x:Int)<n:=by omega
       rename World=>wd
       go_wp2
       go_loopw [8,10,11] (fun ag k _ wr=>∃(g:Bool) (M:Nat→Nat→Bool) (y:Nat),ag=.bool g∧k=.int .i64 y∧y≤n∧MX w1.heap.size w1 wr n A gs M∧SW n c nxt M0 M g x y 0) (fun _ k _ _=>n-(intOf k).toNat)
       case atStart=>exact⟨g1,M1,0,rfl,rfl,Nat.zero_le _,HX1.out,HS1.out⟩
       case round=>
        clear HX1 HS1
        obtain⟨g2,M2,y,rfl,rfl,hy,hmx2,hsw2⟩:=hrel
        have HX2:Hid (MX w1.heap.size w1 wr n A gs M2):=hmx2
        have HS2:Hid (SW n c nxt M0 M2 g2 x y 0):=hsw2
        clear hmx2 hsw2
        by_cases hyl:y<n
        ·have hyI:(y:Int)<n:=by omega
         rename World=>we
         go_wp2
         go_loopw [8,11] (fun ag d wr=>∃(g:Bool) (M:Nat→Nat→Bool) (z:Nat),ag=.bool g∧d=.int .i64 z∧z≤c∧MX w1.heap.size w1 wr n A gs M∧SW n c nxt M0 M g x y z) (fun _ d _=>c-(intOf d).toNat)
         case atStart=>exact⟨g2,M2,0,rfl,rfl,Nat.zero_le _,HX2.out,HS2.out⟩
         case round=>
          clear HX2 HS2
          obtain⟨g3,M3,z,rfl,rfl,hz,hmx3,hsw3⟩:=hrel
          have HX3:Hid (MX w1.heap.size w1 wr n A gs M3):=hmx3
          have HS3:Hid (SW n c nxt M0 M3 g3 x y z):=hsw3
          obtain⟨-,-,-,-,-,p5⟩:=box6 (HX.out wr hmx3.bl)
          obtain⟨ra,rc,d1,hx3⟩:=HRX.out wr hmx3.bl x hxl
          have hxg:x<gs.length:=by rw[hmx3.gl];exact hxl
          have hyg:y<gs.length:=by rw[hmx3.gl];exact hyl
          have o1:=hmx3.oc x hxg
          have t1:=(hmx3.nw x hxg).c y hyl
          have t2:=(hmx3.nw x hxg).fz
          have HSET:Hid (∀ v,MX w1.heap.size w1 (wr.setCell ⟨gs[x],y,none⟩ (.bool v)) n A gs (updM M3 x y v)):=fun v=>hmx3.set hxg hyl v
          obtain⟨gx,hgx⟩:∃ gx,gx=gs[x]:=⟨_,rfl⟩
          have HGX:Hid (gx=gs[x]):=hgx
          have HXG:Hid (x<gs.length):=hxg
          rw[←hgx] at o1 t1 t2 HSET
          simp only[rowV] at o1
          by_cases hzl:z<c
          ·have hzI:(z:Int)<c:=by omega
           obtain⟨b3,o3,rfl,hc3⟩:=hx3 (by omega)
           obtain⟨d2,hu⟩:=hc3 z hzl
           obtain⟨ra',rc',d3,hy3⟩:=HRX.out wr hmx3.bl y hyl
           obtain⟨b4,o4,rfl,hc4⟩:=hy3 (by omega)
           obtain⟨d4,hv⟩:=hc4 z hzl
           have hug:nxt x z<gs.length:=by rw[hmx3.gl];exact hu
           have o2:=hmx3.oc (nxt x z) hug
           have t3:=(hmx3.nw (nxt x z) hug).c (nxt y z) hv
           have HMISS:Hid (M3 x y=false→M3 (nxt x z) (nxt y z)=false→SW n c nxt M0 (updM M3 x y false) g3 x y (z+1)):=fun h1 h2=>hsw3.miss h1 h2
           have HHIT:Hid (M3 x y=false→SW n c nxt M0 (updM M3 x y true) true x y (z+1)):=fun h1=>hsw3.hit hxl hyl h1
           obtain⟨gu,hgu⟩:∃ gu,gu=gs[nxt x z]:=⟨_,rfl⟩
           rw[←hgu] at o2 t3
           simp only[rowV] at o2
           obtain⟨val,hval⟩:∃ val,val=M3 (nxt x z) (nxt y z):=⟨_,rfl⟩
           rw[←hval] at t3 HMISS
           obtain⟨u,hue⟩:∃ u,u=nxt x z:=⟨_,rfl⟩
           obtain⟨v,hve⟩:∃ v,v=nxt y z:=⟨_,rfl⟩
           rw[←hue] at d2 o2 hu
           rw[←hve] at d4 t3 hv
           have huI:(u:Int)<n:=by omega
           have hvI:(v:Int)<n:=by omega
           cases hM:M3 x y with
           |true=>
            rw[hM] at t1
            have HNEXT:Hid (SW n c nxt M0 M3 g3 x (y+1) 0):=hsw3.next (.inl hM)
            clear hmx3 hsw3 hc3 hc4 hx3 hy3 hgx hgu hval hue hve hug hM
            go_wp2
            go_roundw
            case rel=>exact⟨g3,M3,y+1,rfl,by go_num,by omega,HX3.out,HNEXT.out⟩
            case measure=>simp[intOf]<;>omega
           |false=>
            rw[hM] at t1
            have HMI:Hid (val=false→SW n c nxt M0 (updM M3 x y false) g3 x y (z+1)):=HMISS.out hM
            have HHI:Hid (SW n c nxt M0 (updM M3 x y true) true x y (z+1)):=HHIT.out hM
            clear hmx3 hsw3 hc3 hc4 hx3 hy3 hgx hgu hval hue hve hug hM HMISS HHIT
            have hm4:MX w1.heap.size w1 (wr.setCell ⟨gx,y,none⟩ (.bool val)).drew n A gs (updM M3 x y val):=(HSET.out val).drew1
            have e1:=hm4.oc x HXG.out
            have e2:=(hm4.nw x HXG.out).c y hyl
            rw[←HGX.out] at e1 e2
            simp only[rowV] at e1
            simp only[updM,and_self,if_true] at e2
            have HM4:Hid (MX w1.heap.size w1 (wr.setCell ⟨gx,y,none⟩ (.bool val)).drew n A gs (updM M3 x y val)):=hm4
            have HSW:Hid (SW n c nxt M0 (updM M3 x y val) (g3||val) x y (z+1)):=by
             show SW _ _ _ _ _ _ _ _ _
             cases val with
             |true=>rw[Bool.or_true];exact HHI.out
             |false=>rw[Bool.or_false];exact HMI.out rfl
            clear hm4
            refine wp_norm (told_round wr w.heap.size A n cap b0 o0 cn b3 o3 c rc b4 o4 rc' u v gx gu x y z g3 val _ _ _ _ _ _ _ _ _ _ _ _ _ _ _ _ _ _ _ _ _ _ _ _ _ _ _ _ _ _ _ _ _ _ _ _ _ _ _ _ _ _ _ _ _ _ _ _ _ _ _ _ _ _ _ _ _ _ _ _ _ _ _ _ _ _ _ _ _ _ _ _ _ _ _ _ _ _ _ _ _ _ _ _ _ _ _ _ _ _ _ _ _ _ _ _ _ _ _ _ _ _ _ _ _ _ _ _ p5 d1 d2 d3 d4 o1 o2 t1 t2 t3 hxI hyI hzI huI hvI (by omega) (by omega) e1 e2 _ (fun q56 q57 q58 q59 q60 q61 q62 q63 q64 q65 q66 q67 q68 q69 q70 q71 q72 q73 q74 q75 q76 q77 q78 q79 q80 q81 q82 q83 q84 q85 q86 q87 q88 q89 q90 q91 q92 q93 q94 q95 q96 q97 q98 q99 q100 q101 q102 q103 q104 q105 q106 q107 q108 q109 q110 q111 q112=>?_))
            refine⟨⟨_,_,_,_,_,_,_,_,_,_,_,_,_,_,_,_,_,_,_,_,_,_,_,_,_,_,_,_,_,_,_,_,_,_,_,_,_,_,_,_,_,_,_,_,_,_,_,_,_,_,_,_,_,_,_,_,_,_,_,⟨g3||val,updM M3 x y val,z+1,rfl,rfl,by omega,HM4.out,HSW.out⟩,rfl⟩,?_⟩
            show c-(intOf (.int .i64 ((z:Int)+1))).toNat<c-(intOf (.int .i64 (z:Int))).toNat
            simp[intOf]
            omega
          ·have hzI:¬(z:Int)<c:=by omega
           have HNEXT:Hid (SW n c nxt M0 M3 g3 x (y+1) 0):=hsw3.next (.inr (by omega))
           clear hmx3 hsw3 hx3 hgx
           go_wp2
           go_roundw
           case rel=>exact⟨g3,M3,y+1,rfl,by go_num,by omega,HX3.out,HNEXT.out⟩
           case measure=>simp[intOf]<;>omega
        ·have hyI:¬(y:Int)<n:=by omega
         have HROW:Hid (SW n c nxt M0 M2 g2 (x+1) 0 0):=HS2.out.row (by omega)
         go_wp2
         go_roundw
         case rel=>exact⟨g2,M2,x+1,rfl,by go_num,by omega,HX2.out,HROW.out⟩
         case measure=>simp[intOf]<;>omega
      ·have hxI:¬(x:Int)<n:=by omega
       go_wp2
       go_roundw
       case rel=>exact⟨g1,M1,rfl,HX1.out,fun a b ha hb h=>HS1.out.mo a b (HD0.out a b ha hb h),fun h=>by subst h;exact HS1.out.done (by omega)⟩
       case measure=>
        rw[HX1.out.falses,HF0.out]
        cases g1 with
        |true=>
         obtain⟨a,b,ha,hb,h1,h2⟩:=HS1.out.ag rfl
         have:=falses_lt HS1.out.mo ha hb h1 h2
         simp;omega
        |false=>
         have:=falses_le (n:=n) HS1.out.mo
         simp;omega
end Go.Proofs.YtbjabpodkaokjaaGreatDoor

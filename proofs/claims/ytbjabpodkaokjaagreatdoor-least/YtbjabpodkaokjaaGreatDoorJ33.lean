import Derived.Test.YtbjabpodkaokjaaGreatDoorJ32
import Derived.Deep.CutRange
import Derived.Deep.RegionHeld3
import Derived.Test.YtbjabpodkaokjaaGreatDoorJ17
import Derived.Test.YtbjabpodkaokjaaGreatDoorJ11
set_option linter.unusedVariables false
set_option linter.unusedSimpArgs false
set_option maxHeartbeats 4000000
set_option maxRecDepth 100000
namespace Go.Proofs.YtbjabpodkaokjaaGreatDoor
open Go.RowKit
open Sx (Prt Cnt)
def T6 (w:World) (q:Nat) (a0 a1 a2 a3 a4 a5:Value):World:=(((((w.setCell ⟨q,0,none⟩ a0).setCell ⟨q,1,none⟩ a1).setCell ⟨q,2,none⟩ a2).setCell ⟨q,3,none⟩ a3).setCell ⟨q,4,none⟩ a4).setCell ⟨q,5,none⟩ a5
theorem T6_own {w:World}{q:Nat}{b0 b1 b2 b3 b4 b5:Value} (a0 a1 a2 a3 a4 a5:Value) {T:TypeId}{fr:Nat×Nat} (h:w.heap[q]?=some (.cells #[b0,b1,b2,b3,b4,b5] T fr)):(T6 w q a0 a1 a2 a3 a4 a5).heap[q]?=some (.cells #[a0,a1,a2,a3,a4,a5] T fr):=by
 unfold T6
 rw[set_own (set_own (set_own (set_own (set_own (set_own h)))))]
 simp
theorem T6_blk (w:World) (q:Nat) (a0 a1 a2 a3 a4 a5:Value) {b:Nat} (h:b≠q):(T6 w q a0 a1 a2 a3 a4 a5).heap[b]?=w.heap[b]?:=by
 unfold T6
 iterate 6 rw[set_blk _ _ _ _ h]
theorem T6_below {w w2:World}{B q:Nat} (a0 a1 a2 a3 a4 a5:Value) (h:Below B w w2) (hq:B≤q):Below B w (T6 w2 q a0 a1 a2 a3 a4 a5):=by
 unfold T6
 exact(((((h.setCell hq _).setCell hq _).setCell hq _).setCell hq _).setCell hq _).setCell hq _
theorem exc_low {S:Nat→Prop}{w w':World}{B:Nat} (hx:Exc S w w') (h:∀ b,b<B→¬ S b) (hB:B≤w.heap.size):Below B w w':=⟨hx.os,hx.tape,hx.output,hx.size,fun b hb=>hx.block b (by omega) (h b hb)⟩
structure CR (w2 w6 w7:World) (sb B:Nat) (vf vr:Value) (s:Sr) (rs:List W4):Prop where
 low:Below sb w2 w7
 sr:SrAt w7 sb vf s
 c12:w7.cell? ⟨sb,12,none⟩=some vr
 rf:FsAt 150 w7 B vr rs
 lt:sb<w6.heap.size
 B6:w6.heap.size≤B
 fl:∀ g,vf.ownBlock=some g→g<w6.heap.size
 sz:B≤w7.heap.size
theorem SX.below {w6 W:World}{sb:Nat}{vb vf:Value}{e:Ex}{s:Sr} (h:SX w6 sb vb vf e s) (hb:Below w6.heap.size w6 W):SX W sb vb vf e s:=by
 have hsb:sb<w6.heap.size:=cell_lt h.c0
 obtain⟨ws,b1,b2⟩:=h.bs
 refine⟨cell_below hb h.c0,⟨ws,b1.blk (fun b hb'=>hb.block b (b1.lt hb').2),b2⟩,cell_below hb h.c12,fun o=>?_,h.sr.below hb⟩
 rw[←h.fz o];simp[World.frozen?,hb.block sb hsb]
theorem classes_on {w2 w6 W:World}{sb:Nat}{vb vf:Value}{e:Ex}{s:Sr} (hlow:Below sb w2 w6) (h6:SX w6 sb vb vf e s) (hW:Below w6.heap.size w6 W) (hl:e.bs.length≤64) (rd rs:List W4) (hrd:rd=rdsM e.bs) (hrs:rs=metL [] rd) :
  Calls Tryz.prog 74 #[.pointer (some ⟨sb,0,none⟩)] W fun r w7=>r=.returned (.string (ba ((rd.map rs.idxOf).map UInt8.ofNat)))∧∃ vr,CR w2 w6 w7 sb W.heap.size vf vr s rs∧Exc (fun b=>b=sb) W w7:=by
 have hsb:sb<w6.heap.size:=cell_lt h6.c0
 have h:=h6.below hW
 have hz:=hW.size
 refine(classes_any W sb (sb+1) vb e.bs hl h.c0 h.bs (by omega) h.c12 h.fz).mono ?_
 rintro r w7 ⟨rfl,vr,h1,h2,h3,h4,h5⟩
 refine⟨?_,vr,⟨(hlow.trans (hW.mono (by omega))).trans (exc_low h5 (fun b hb=>by omega) (by omega)),h.classes (vr:=vr) h3 h5,h1,?_,hsb,hz,fun g hg=>(h6.sr.fs.lt hg).2,h5.size⟩,h5⟩
 ·rw[hrs,hrd,List.map_map];rfl
 ·rw[hrs,hrd];exact h2
theorem spre_at {w2 w6 w7 W:World}{sb tb B n:Nat}{vf vr:Value}{s:Sr}{rs:List W4}{f b:Bool}{cls:List UInt8}{T:TypeId} (h:CR w2 w6 w7 sb B vf vr s rs) (hT:TabZ w7) (h1:1<sb) (ok:SrOk n s) (rk:∀ r∈rs,Sp n r) (rl:rs.length≤256) (ht:(tb=w6.heap.size∧tb<B)∨tb=w7.heap.size)
  (hk:∀ b,b<w7.heap.size→b≠tb→W.heap[b]?=w7.heap[b]?) (hb:W.heap[tb]?=some (.cells (tC f b cls (.slice none 0 0) (.slice none 0 0)) T)):SPre W sb tb vf vr s n rs:=by
 have z1:=h.lt
 have z2:=h.B6
 have z3:=h.sz
 have hr':FsAt 150 w7 (sb+1) vr rs:=own_less h.rf (by omega)
 have nr:∀ {g},vr.ownBlock=some g→g≠tb:=fun {g} q=>by have:=h.rf.lt q;omega
 have nf:∀ {g},vf.ownBlock=some g→g≠tb:=fun {g} q=>by have:=h.fl g q;omega
 have ks:W.heap[sb]?=w7.heap[sb]?:=hk sb (by omega) (by omega)
 refine⟨hT.keep (hk 1 hT.lt (by omega)),h1,by omega,h.sr.keep ks (fun b hb'=>hk b (h.sr.fs.lt hb').2 (nf hb')),ok,?_,hr'.blk (fun b hb'=>hk b (hr'.lt hb').2 (nr hb')),fun q=>nr q rfl,fun q=>nf q rfl,rk,rl,?_,?_,fun o=>?_⟩
 ·rw[←h.c12];simp[World.cell?,ks]
 ·exact(box6 hb).2.2.2.2.1
 ·exact(box6 hb).2.2.2.2.2
 ·simp only[World.frozen?,hb];simp
abbrev zT:Value:=.agg #[.bool false,.bool false,.int .i64 0,.string ⟨#[]⟩,.slice none 0 0,.slice none 0 0]
theorem searchT_any (w:World) (p:Sx.Ptn) (a0:Option Addr) (c0:Nat) (limit:Nat) (hl:1≤limit∧limit≤200) (hT:TabZ w) (hsz:1<w.heap.size) (htr:TrOkVs p.choices) (hrep:Sx.RepCs w (fun g=>g<w.heap.size) p.choices (.slice a0 p.choices.length c0)) :
  Calls Tryz.prog 41 #[.agg #[.bool p.front,.bool p.back,.slice a0 p.choices.length c0],.int .i64 (limit:Int)] w fun e w'=>Below w.heap.size w w'∧((searchM p limit=none∧e=.returned (.tuple #[zT,.bool false]))∨∃ t va vn,searchM p limit=some t∧e=.returned (.tuple #[tv (tbOf t) va vn,.bool true])∧TabIn w' (tbOf t) va vn):=by
 obtain⟨w1,hw1⟩:∃ w1,w1=(w.alloc (.cells #[.bool p.front,.bool p.back,.slice a0 p.choices.length c0] 87)).alloc (.cells #[.bool false,.bool false,.int .i64 0,.string ⟨#[]⟩,.slice none 0 0,.slice none 0 0] 33):=⟨_,rfl⟩
 have hb1:Below w.heap.size w w1:=by rw[hw1];exact((Below.refl _ _).alloc (Nat.le_refl _) _).alloc (by simp) _
 have hsp:=spCs_all p.choices htr w1 w.heap.size (.slice a0 p.choices.length c0) hb1.size (repCs_keep hrep hb1)
 have HW1:Hid (w1=(w.alloc (.cells #[.bool p.front,.bool p.back,.slice a0 p.choices.length c0] 87)).alloc (.cells #[.bool false,.bool false,.int .i64 0,.string ⟨#[]⟩,.slice none 0 0,.slice none 0 0] 33)):=hw1
 have HB1:Hid (Below w.heap.size w w1):=hb1
 have hs1:w1.heap.size=w.heap.size+2:=by rw[hw1];simp
 have hk2:w1.heap[w.heap.size+1]?=some (.cells #[.bool false,.bool false,.int .i64 0,.string ⟨#[]⟩,.slice none 0 0,.slice none 0 0] 33):=by
  rw[hw1]
  have:=heap_alloc_new (w.alloc (.cells #[.bool p.front,.bool p.back,.slice a0 p.choices.length c0] 87)) (.cells #[.bool false,.bool false,.int .i64 0,.string ⟨#[]⟩,.slice none 0 0,.slice none 0 0] 33)
  simpa using this
 have hk1:w1.heap[w.heap.size]?=some (.cells #[.bool p.front,.bool p.back,.slice a0 p.choices.length c0] 87):=by rw[hw1,Below.heap_alloc _ _ _ (by simp)];exact heap_alloc_new w _
 have HBX:Hid (∀ W,Below w1.heap.size w1 W→W.heap[w.heap.size]?=some (.cells #[.bool p.front,.bool p.back,.slice a0 p.choices.length c0] 87)∧W.heap[w.heap.size+1]?=some (.cells #[.bool false,.bool false,.int .i64 0,.string ⟨#[]⟩,.slice none 0 0,.slice none 0 0] 33)∧w.heap.size+2≤W.heap.size):=fun W hb=>⟨(hb.block _ (by omega)).trans hk1,(hb.block _ (by omega)).trans hk2,by have:=hb.size;omega⟩
 have HBW:Hid (∀ W,Below w1.heap.size w1 W→Below w.heap.size w W):=fun W hb=>hb1.trans (hb.mono (by omega))
 clear hw1 hb1 hs1 hk1 hk2
 obtain⟨N,hN⟩:∃ N,N=spCs p.choices:=⟨_,rfl⟩
 have HN:Hid (N=spCs p.choices):=hN
 rw[←hN] at hsp
 clear hN
 by_cases h64:64<N
 ·have hcap:capN N=65:=by unfold capN;omega
  rw[hcap] at hsp
  have HNONE:Hid (searchM p limit=none):=by show _=_;unfold searchM;rw[if_pos (by rw[←HN.out];exact h64)]
  clear hcap
  go_enter Tryz.func41,Tryz.ntmps41
  go_wp2_with (go_at_call 72;rw[←HW1.out];refine hsp.mono ?_;rintro e w2 ⟨rfl,hb2⟩;have HB2:Hid (Below w1.heap.size w1 w2):=hb2;obtain⟨-,y1,-⟩:=HBX.out w2 hb2;have Y1:Hid (w2.heap[w.heap.size+1]?=some (.cells #[.bool false,.bool false,.int .i64 0,.string ⟨#[]⟩,.slice none 0 0,.slice none 0 0] 33)):=y1;have y3:∀ o,w2.frozen? ⟨w.heap.size+1,o,none⟩=false:=(fun o=>by simp[World.frozen?,y1]);obtain⟨j0,j1,j2,j3,j4,j5⟩:=box6 y1;clear hb2 y1)
  have hcf:=T6_own (.bool false) (.bool false) (.int .i64 0) (.string ⟨#[]⟩) (.slice none 0 0) (.slice none 0 0) Y1.out
  have hbf:=T6_below (.bool false) (.bool false) (.int .i64 0) (.string ⟨#[]⟩) (.slice none 0 0) (.slice none 0 0) (HBW.out w2 HB2.out) (q:=w.heap.size+1) (by omega)
  change bodyPost _ _ _ _ _ (T6 w2 (w.heap.size+1) (.bool false) (.bool false) (.int .i64 0) (.string ⟨#[]⟩) (.slice none 0 0) (.slice none 0 0))
  obtain⟨q0,q1,q2,q3,q4,q5⟩:=box6 hcf
  generalize T6 w2 (w.heap.size+1) (.bool false) (.bool false) (.int .i64 0) (.string ⟨#[]⟩) (.slice none 0 0) (.slice none 0 0)=Wf at *
  refine bodyPost_ret (v:=.tuple #[.agg #[.bool false,.bool false,.int .i64 0,.string ⟨#[]⟩,.slice none 0 0,.slice none 0 0],.bool false]) (by simp[results,Tryz.results41,go_sem,q0,q1,q2,q3,q4,q5]) rfl ⟨hbf,.inl ⟨HNONE.out,rfl⟩⟩
 ·have hcap:capN N=N:=by unfold capN;omega
  rw[hcap] at hsp
  have hNI:¬(64:Int)<N:=by omega
  clear hcap
  obtain⟨ob,hob⟩:∃ ob:Obj,ob=.cells #[.slice none 0 0,.slice none 0 0,.int .u64 0,.int .u64 0,.int .u64 0,.int .u64 0,.int .u64 0,.int .u64 0,.int .u64 0,.int .u64 0,.bool false,.bool p.front,.slice none 0 0] 154:=⟨_,rfl⟩
  have HCH:Hid (∀ w2,Below w1.heap.size w1 w2→Calls Tryz.prog 73 #[.pointer (some ⟨w2.heap.size,0,none⟩),.slice a0 p.choices.length c0] (w2.alloc ob).drew (MkRes w2.heap.size (w2.alloc ob).drew (.slice none 0 0) (.slice none 0 0) (exCs p.choices pc0 ⟨[],[]⟩))):=fun w2 hb2=>by
   have hz2:=(HBX.out w2 hb2).2.2
   have hbw:Below w.heap.size w (w2.alloc ob).drew:=((HBW.out w2 hb2).alloc (by omega) _).drew
   have e0:(w2.alloc ob).drew.heap[w2.heap.size]?=some ob:=heap_alloc_new w2 _
   rw[hob] at e0
   refine choices_all p.choices htr _ w2.heap.size (.slice none 0 0) (.slice none 0 0) ⟨[],[]⟩ 0 _ ⟨hT.keep (hbw.block 1 hsz),by omega,⟨?_,?_,fun o=>?_,⟨[],World.ownsRow_nil _ _ _ _,rfl,fun i h=>by simp at h⟩,World.ownsRow_nil _ _ _ _⟩,⟨rfl,rfl,fun x hx=>by simp at hx⟩,by rw[←HN.out];omega⟩ ?_
   ·rw[hob];simp only[World.cell?,e0];rfl
   ·rw[hob];simp only[World.cell?,e0];rfl
   ·rw[hob];simp only[World.frozen?,e0];simp
   ·exact(hrep.of_heap (fun g hg _=>⟨by omega,hbw.block g hg⟩))
  go_enter Tryz.func41,Tryz.ntmps41
  go_wp2_with (go_at_call 72;rw[←HW1.out];refine hsp.mono ?_;rintro e w2 ⟨rfl,hb2⟩;have HB2:Hid (Below w1.heap.size w1 w2):=hb2;obtain⟨y0,y1,y2⟩:=HBX.out w2 hb2;have Y1:Hid (w2.heap[w.heap.size+1]?=some (.cells #[.bool false,.bool false,.int .i64 0,.string ⟨#[]⟩,.slice none 0 0,.slice none 0 0] 33)):=y1;obtain⟨j0,j1,j2⟩:=box3 y0;clear hb2 y1 y0)
  rw[←hob]
  have HOB:Hid (ob=.cells #[.slice none 0 0,.slice none 0 0,.int .u64 0,.int .u64 0,.int .u64 0,.int .u64 0,.int .u64 0,.int .u64 0,.int .u64 0,.int .u64 0,.bool false,.bool p.front,.slice none 0 0] 154):=hob
  have hch:=HCH.out w2 HB2.out
  have hal:Below w2.heap.size w2 (w2.alloc ob):=(Below.refl _ _).alloc (Nat.le_refl _) _
  have i2:=cell_below hal j2
  have HC13:Hid (∀ o,2≤o→o≤10→∃ y,(w2.alloc ob).cell? ⟨w2.heap.size,o,none⟩=some y):=fun o h1 h2=>by
   have e0:=heap_alloc_new w2 ob
   rw[HOB.out] at e0
   rw[HOB.out]
   simp only[World.cell?,e0]
   rcases(by omega:o=2∨o=3∨o=4∨o=5∨o=6∨o=7∨o=8∨o=9∨o=10) with rfl|rfl|rfl|rfl|rfl|rfl|rfl|rfl|rfl<;>exact⟨_,rfl⟩
  obtain⟨pe,hpe⟩:∃ pe,pe=exCs p.choices pc0 ⟨[],[]⟩:=⟨_,rfl⟩
  have HPE:Hid (pe=exCs p.choices pc0 ⟨[],[]⟩):=hpe
  rw[←hpe] at hch
  obtain⟨sb,hsb⟩:∃ sb,sb=w2.heap.size:=⟨_,rfl⟩
  have HSB:Hid (sb=w2.heap.size):=hsb
  rw[←hsb] at hch HC13 y2
  have HCELL:Hid (∀ w5 vb vf,Grw sb (w2.alloc ob).drew (.slice none 0 0) (.slice none 0 0) w5 vb vf→(∃ y,w5.cell? ⟨sb,2,none⟩=some y)∧(∃ y,w5.cell? ⟨sb,3,none⟩=some y)∧(∃ y,w5.cell? ⟨sb,4,none⟩=some y)∧(∃ y,w5.cell? ⟨sb,5,none⟩=some y)∧(∃ y,w5.cell? ⟨sb,6,none⟩=some y)∧(∃ y,w5.cell? ⟨sb,7,none⟩=some y)∧(∃ y,w5.cell? ⟨sb,8,none⟩=some y)∧(∃ y,w5.cell? ⟨sb,9,none⟩=some y)∧∃ y,w5.cell? ⟨sb,10,none⟩=some y):=fun w5 vb vf hg=>by
   have hlt:sb<(w2.alloc ob).drew.heap.size:=by rw[HSB.out];show w2.heap.size<(w2.alloc ob).heap.size;simp
   have k:∀ o,2≤o→o≤10→∃ y,w5.cell? ⟨sb,o,none⟩=some y:=fun o h1 h2=>by rw[hg.cl hlt o h1];exact HC13.out o h1 h2
   exact⟨k _ (by omega) (by omega),k _ (by omega) (by omega),k _ (by omega) (by omega),k _ (by omega) (by omega),k _ (by omega) (by omega),k _ (by omega) (by omega),k _ (by omega) (by omega),k _ (by omega) (by omega),k _ (by omega) (by omega)⟩
  simp only[←hsb]
  clear hob hpe hal j0 j1 j2 hsb
  go_region_with (go_at_call 73;refine hch.mono ?_;rintro e w5 ⟨rfl,vb,vf,hx5,hg5⟩;obtain⟨⟨z2,l2⟩,⟨z3,l3⟩,⟨z4,l4⟩,⟨z5,l5⟩,⟨z6,l6⟩,⟨z7,l7⟩,⟨z8,l8⟩,⟨z9,l9⟩,⟨z10,l10⟩⟩:=HCELL.out w5 vb vf hg5;have fz:=hx5.fz;have HX5:Hid (ExAt w5 sb vb vf pe.2):=hx5;have HG5:Hid (Grw sb (w2.alloc ob).drew (.slice none 0 0) (.slice none 0 0) w5 vb vf):=hg5;clear hx5 hg5)
  obtain⟨w6,hw6⟩:∃ w6,w6=P9 w5 sb pe.1:=⟨_,rfl⟩
  change Exit.then _ _ _ _ (P9 w5 sb pe.1)
  rw[←hw6]
  have hlt3:sb<(w2.alloc ob).drew.heap.size:=by rw[HSB.out];show w2.heap.size<(w2.alloc ob).heap.size;simp
  have HSX:Hid (SX w6 sb vb vf pe.2 ⟨pe.2.fs,pe.1,p.front⟩):=by
   have e0:(w2.alloc ob).drew.heap[sb]?=some ob:=by rw[HSB.out];exact heap_alloc_new w2 ob
   rw[HOB.out] at e0
   rw[hw6]
   refine sx_of hlt3 HX5.out HG5.out ?_ ?_ HC13.out
   ·rw[HOB.out];simp only[World.cell?,e0];rfl
   ·rw[HOB.out];simp only[World.cell?,e0];rfl
  have HL6:Hid (Below sb w2 w6):=by
   show Below sb w2 w6
   have b1:Below sb w2 (w2.alloc ob).drew:=((Below.refl _ _).alloc (by rw[HSB.out];exact Nat.le_refl _) _).drew
   have b2:Below sb (w2.alloc ob).drew w5:=exc_low HG5.out.exc (fun b hb q=>by
    rcases q with q|q|q
    ·omega
    ·simp[Value.ownBlock] at q
    ·simp[Value.ownBlock] at q) (by omega)
   rw[hw6]
   exact(b1.trans b2).trans (exc_low (P9_exc _ _ _) (fun b hb=>by omega) (by have:=HG5.out.exc.size;omega))
  have hok:=exCs_ok p.choices htr 0 ⟨[],[]⟩ pc0 (by rw[←HN.out];omega) ⟨rfl,rfl,fun x hx=>by simp at hx⟩ (Pcs.zero 0)
  rw[←HPE.out,←HN.out,Nat.zero_add] at hok
  have HOK:Hid (ExOk N pe.2∧Pcs N pe.1):=hok
  obtain⟨rd,hrd⟩:∃ rd,rd=rdsM pe.2.bs:=⟨_,rfl⟩
  obtain⟨rs,hrs⟩:∃ rs,rs=metL [] rd:=⟨_,rfl⟩
  have HRD:Hid (rd=rdsM pe.2.bs):=hrd
  have HRS:Hid (rs=metL [] rd):=hrs
  have hlb:pe.2.bs.length≤64:=by have:=hok.1.b;omega
  obtain⟨cls,hcls⟩:∃ cls,cls=(rd.map rs.idxOf).map UInt8.ofNat:=⟨_,rfl⟩
  have HCLS:Hid (cls=(rd.map rs.idxOf).map UInt8.ofNat):=hcls
  have HCA:Hid (Calls Tryz.prog 74 #[.pointer (some ⟨sb,0,none⟩)] w6.drew fun r w7=>r=.returned (.string (ba cls))∧∃ vr,CR w2 w6 w7 sb w6.heap.size vf vr ⟨pe.2.fs,pe.1,p.front⟩ rs):=by
   refine(classes_on HL6.out HSX.out (Below.refl _ _).drew hlb rd rs hrd hrs).mono ?_
   rintro r w7 ⟨e,vr,h1,-⟩
   exact⟨by rw[hcls];exact e,vr,h1⟩
  have HCB:Hid (Calls Tryz.prog 74 #[.pointer (some ⟨sb,0,none⟩)] (w6.alloc (.cells #[.bool false,.bool false,.int .i64 0,.string ⟨#[]⟩,.slice none 0 0,.slice none 0 0] 33)).drew fun r w7=>r=.returned (.string (ba cls))∧∃ vr,CR w2 w6 w7 sb (w6.heap.size+1) vf vr ⟨pe.2.fs,pe.1,p.front⟩ rs∧w7.heap[w6.heap.size]?=some (.cells #[.bool false,.bool false,.int .i64 0,.string ⟨#[]⟩,.slice none 0 0,.slice none 0 0] 33)):=by
   have hsb6:sb<w6.heap.size:=cell_lt HSX.out.c0
   have hz:∀ o,(w6.alloc o).drew.heap.size=w6.heap.size+1:=fun o=>World.size_alloc _ _
   refine(classes_on HL6.out HSX.out ((Below.refl _ _).alloc (Nat.le_refl _) _).drew hlb rd rs hrd hrs).mono ?_
   rintro r w7 ⟨e,vr,h1,h2⟩
   rw[hz] at h1
   exact⟨by rw[hcls];exact e,vr,h1,(h2.block _ (by rw[hz];omega) (by omega)).trans (heap_alloc_new w6 _)⟩
  have HBOX:Hid (∀ W,Below sb w2 W→W.heap[w.heap.size]?=some (.cells #[.bool p.front,.bool p.back,.slice a0 p.choices.length c0] 87)∧W.heap[w.heap.size+1]?=some (.cells #[.bool false,.bool false,.int .i64 0,.string ⟨#[]⟩,.slice none 0 0,.slice none 0 0] 33)):=fun W hb=>by
   obtain⟨h1,h2,-⟩:=HBX.out w2 HB2.out
   exact⟨(hb.block _ (by omega)).trans h1,(hb.block _ (by omega)).trans h2⟩
  obtain⟨m0,m1,-⟩:=box3 (HBOX.out w6 HL6.out).1
  have m0a:=fun ob=>cell_below (((Below.refl _ _).alloc (Nat.le_refl _) ob).drew:Below w6.heap.size w6 (w6.alloc ob).drew) m0
  have m1a:=fun ob=>cell_below (((Below.refl _ _).alloc (Nat.le_refl _) ob).drew:Below w6.heap.size w6 (w6.alloc ob).drew) m1
  have HSB6:Hid (sb<w6.heap.size):=cell_lt HSX.out.c0
  have HALL:Hid (∀ W,Below sb w2 W→W.cell? ⟨w.heap.size,0,none⟩=some (.bool p.front)∧W.cell? ⟨w.heap.size,1,none⟩=some (.bool p.back)):=fun W hb=>by
   obtain⟨q0,q1,-⟩:=box3 (HBOX.out W hb).1
   exact⟨q0,q1⟩
  clear hw6 hok hrd hrs hcls hlb l2 l3 l4 l5 l6 l7 l8 l9 l10 fz hch i2 HCELL hsp HCH hlt3
  go_wp2
  go_cut [7] from 26 to 32 (fun u7 wc=>∃ w7 tb B vr,u7=.pointer (some ⟨tb,0,none⟩)∧CR w2 w6 w7 sb B vf vr ⟨pe.2.fs,pe.1,p.front⟩ rs∧((tb=w6.heap.size∧tb<B)∨tb=w7.heap.size)∧(∀ b,b<w7.heap.size→b≠tb→wc.heap[b]?=w7.heap[b]?)∧wc.heap[tb]?=some (.cells #[.bool p.front,.bool p.back,.int .i64 0,.string (ba cls),.slice none 0 0,.slice none 0 0] 33)∧Below sb w2 wc)
  case first=>
   go_region_held3 (fun w'=>w'.cell? ⟨w.heap.size,0,none⟩=some (.bool p.front)∧w'.cell? ⟨w.heap.size,1,none⟩=some (.bool p.back)) (first|exact HALL.out _ ((by(repeat first|(with_reducible refine Below.setCell ?_ (by first|(have:=HSB6.out;simp;omega)|(have:=HCR.out.sz;have:=HCR.out.B6;have:=HSB6.out;simp;omega)) _)|(with_reducible refine Below.alloc ?_ (by first|(have:=HSB6.out;omega)|(have:=HCR.out.sz;have:=HCR.out.B6;have:=HSB6.out;omega)) _)|(with_reducible refine Below.drew ?_));exact HL6.out))|exact HALL.out _ ((by(repeat first|(with_reducible refine Below.setCell ?_ (by first|(have:=HSB6.out;simp;omega)|(have:=HCR.out.sz;have:=HCR.out.B6;have:=HSB6.out;simp;omega)) _)|(with_reducible refine Below.alloc ?_ (by first|(have:=HSB6.out;omega)|(have:=HCR.out.sz;have:=HCR.out.B6;have:=HSB6.out;omega)) _)|(with_reducible refine Below.drew ?_));exact HCR.out.low))) ((go_at_call 74;first|(refine HCB.out.mono ?_;rintro e w7 ⟨rfl,vr,hcr,hz7⟩;have HZ7:Hid (w7.heap[w6.heap.size]?=some (.cells #[.bool false,.bool false,.int .i64 0,.string ⟨#[]⟩,.slice none 0 0,.slice none 0 0] 33)):=hz7;have hfz7:∀ o,w7.frozen? ⟨w6.heap.size,o,none⟩=false:=(fun o=>by simp[World.frozen?,HZ7.out]);obtain⟨x0,x1,x2,x3,x4,x5⟩:=box6 hz7;have HCR:Hid (CR w2 w6 w7 sb (w6.heap.size+1) vf vr ⟨pe.2.fs,pe.1,p.front⟩ rs):=hcr;obtain⟨n0,n1,-⟩:=box3 (HBOX.out w7 hcr.low).1;clear hz7 hcr)|(refine HCA.out.mono ?_;rintro e w7 ⟨rfl,vr,hcr⟩;have HCR:Hid (CR w2 w6 w7 sb w6.heap.size vf vr ⟨pe.2.fs,pe.1,p.front⟩ rs):=hcr;obtain⟨n0,n1,-⟩:=box3 (HBOX.out w7 hcr.low).1;have n0a:=(fun ob=>cell_below ((Below.refl _ _).alloc (Nat.le_refl _) ob:Below w7.heap.size w7 (w7.alloc ob)) n0);have n1a:=(fun ob=>cell_below ((Below.refl _ _).alloc (Nat.le_refl _) ob:Below w7.heap.size w7 (w7.alloc ob)) n1);clear hcr)))
   ·go_wp2
    go_meet
    exact⟨w7,_,_,vr,rfl,HCR.out,.inr rfl,fun b hb _=>Below.heap_alloc _ _ _ hb,heap_alloc_new w7 _,HCR.out.low.alloc (by have:=HCR.out.sz;have:=HCR.out.B6;have:=HSB6.out;omega) _⟩
   ·have hT6:=T6_own (.bool p.front) (.bool p.back) (.int .i64 0) (.string (ba cls)) (.slice none 0 0) (.slice none 0 0) HZ7.out
    have hTb:=T6_below (.bool p.front) (.bool p.back) (.int .i64 0) (.string (ba cls)) (.slice none 0 0) (.slice none 0 0) HCR.out.low (q:=w6.heap.size) (by have:=HSB6.out;omega)
    have hTk:=fun b hb=>T6_blk w7 w6.heap.size (.bool p.front) (.bool p.back) (.int .i64 0) (.string (ba cls)) (.slice none 0 0) (.slice none 0 0) (b:=b) hb
    change Exit.then _ _ _ _ (T6 w7 w6.heap.size (.bool p.front) (.bool p.back) (.int .i64 0) (.string (ba cls)) (.slice none 0 0) (.slice none 0 0))
    generalize T6 w7 w6.heap.size (.bool p.front) (.bool p.back) (.int .i64 0) (.string (ba cls)) (.slice none 0 0) (.slice none 0 0)=W8 at *
    go_wp2
    go_meet
    exact⟨w7,_,_,vr,rfl,HCR.out,.inl ⟨rfl,Nat.lt_succ_self _⟩,fun b hb hne=>hTk b hne,hT6,hTb⟩
  case rest=>
   obtain⟨w7,tb,B,vr,rfl,hcr,htb,hk,hblk,hbl⟩:=hcut
   have hy2:w.heap.size+2≤sb:=y2
   have hbw2:=HBW.out w2 HB2.out
   have hz7:sb<w7.heap.size:=by have:=hcr.sz;have:=hcr.B6;have:=hcr.lt;omega
   have hst:sb<tb:=by have:=hcr.lt;omega
   have htlt:tb<wc.heap.size:=(Array.getElem?_eq_some_iff.1 hblk).1
   have hT7:TabZ w7:=hT.keep ((hcr.low.block 1 (by omega)).trans (hbw2.block 1 hsz))
   have hpre:SPre wc sb tb vf vr ⟨pe.2.fs,pe.1,p.front⟩ N rs:=by
    refine spre_at hcr hT7 (by omega) ⟨HOK.out.1.f,by omega,HOK.out.1.s,HOK.out.2⟩ ?_ ?_ htb hk hblk
    ·intro r hr
     rw[HRS.out,HRD.out] at hr
     rcases mem_metL.1 hr with q|q
     ·simp at q
     ·unfold rdsM at q
      obtain⟨b,-,rfl⟩:=List.mem_map.1 q
      exact(rdM_sp b pe.2.bs 0 W4.none (by rw[HOK.out.1.b];omega) (Sp.none 0)).mono (by rw[HOK.out.1.b];omega)
    ·have:=metL_len [] rd
     rw[←HRS.out,HRD.out] at this
     simpa [rdsM] using this
   obtain⟨R,hR⟩:∃ R,R=stsM (stepM ⟨pe.2.fs,pe.1,p.front⟩) rs limit 202 [stOf pe.1.first pe.1.empty] 0 []:=⟨_,rfl⟩
   have hs:=states_any wc sb tb vf vr ⟨pe.2.fs,pe.1,p.front⟩ N rs limit hl hpre R hR
   have HYR:Hid (∀ W,Exc (fun b=>b=tb) wc W→W.heap[w.heap.size+1]?=some (.cells #[.bool false,.bool false,.int .i64 0,.string ⟨#[]⟩,.slice none 0 0,.slice none 0 0] 33)∧Below w.heap.size w W):=fun W hx=>by
    refine⟨(hx.block _ (by omega) (by omega)).trans (HBOX.out wc hbl).2,hbw2.trans ((hbl.trans (exc_low hx (fun b hb=>by omega) (by omega))).mono (by omega))⟩
   have HTC:Hid (wc.heap[tb]?=some (.cells #[.bool p.front,.bool p.back,.int .i64 0,.string (ba cls),.slice none 0 0,.slice none 0 0] 33)):=hblk
   have HSM:Hid (searchM p limit=R.map fun x=>⟨p.front,p.back,rd.map rs.idxOf,x.1.map (·.ends),x.2⟩):=by
    show _=_
    unfold searchM
    rw[if_neg (by rw[←HN.out];exact h64),←HPE.out,←HRD.out,←HRS.out,←hR]
    cases R<;>rfl
   have HH1:Hid (w.heap.size+1<sb∧sb<tb∧tb<wc.heap.size):=⟨by omega,hst,htlt⟩
   clear hcr htb hk hblk hbl hpre hT7 hR hbw2 hst htlt hz7
   cases hR:R with
   |none=>
    rw[hR] at hs HSM
    have HS:Hid (Calls Tryz.prog 75 #[.pointer (some ⟨sb,0,none⟩),.pointer (some ⟨tb,0,none⟩),.int .i64 (limit:Int)] wc fun e w'=>e=.returned (.bool false)∧Exc (fun b=>b=tb) wc w'):=hs.mono (by
     rintro e w' (⟨-,q1,q2⟩|⟨x,va,vn,gs,q,-⟩)
     ·exact⟨q1,q2⟩
     ·cases q)
    clear hs hR
    go_wp2_with (go_at_call 75;refine HS.out.mono ?_;rintro e w8 ⟨rfl,hx8⟩;obtain⟨y1,yb⟩:=HYR.out w8 hx8;have Y8:Hid (w8.heap[w.heap.size+1]?=some (.cells #[.bool false,.bool false,.int .i64 0,.string ⟨#[]⟩,.slice none 0 0,.slice none 0 0] 33)):=y1;have YB:Hid (Below w.heap.size w w8):=yb;have y3:∀ o,w8.frozen? ⟨w.heap.size+1,o,none⟩=false:=(fun o=>by simp[World.frozen?,Y8.out]);obtain⟨j0,j1,j2,j3,j4,j5⟩:=box6 y1;clear hx8 y1 yb)
    have hcf:=T6_own (.bool false) (.bool false) (.int .i64 0) (.string ⟨#[]⟩) (.slice none 0 0) (.slice none 0 0) Y8.out
    have hbf:=T6_below (.bool false) (.bool false) (.int .i64 0) (.string ⟨#[]⟩) (.slice none 0 0) (.slice none 0 0) YB.out (q:=w.heap.size+1) (by omega)
    change bodyPost _ _ _ _ _ (T6 w8 (w.heap.size+1) (.bool false) (.bool false) (.int .i64 0) (.string ⟨#[]⟩) (.slice none 0 0) (.slice none 0 0))
    obtain⟨q0,q1,q2,q3,q4,q5⟩:=box6 hcf
    generalize T6 w8 (w.heap.size+1) (.bool false) (.bool false) (.int .i64 0) (.string ⟨#[]⟩) (.slice none 0 0) (.slice none 0 0)=Wf at *
    refine bodyPost_ret (v:=.tuple #[.agg #[.bool false,.bool false,.int .i64 0,.string ⟨#[]⟩,.slice none 0 0,.slice none 0 0],.bool false]) (by simp[results,Tryz.results41,go_sem,q0,q1,q2,q3,q4,q5]) rfl ⟨hbf,.inl ⟨HSM.out,rfl⟩⟩
   |some x=>
    rw[hR] at hs HSM
    have HS:Hid (Calls Tryz.prog 75 #[.pointer (some ⟨sb,0,none⟩),.pointer (some ⟨tb,0,none⟩),.int .i64 (limit:Int)] wc fun e w'=>∃ va vn gs aa L ac na G nc,e=.returned (.bool true)∧va=.slice aa L ac∧vn=.slice na G nc∧StsAt wc tb rs.length w' va vn (x.1.map (·.ends)) x.2 gs):=hs.mono (by
     rintro e w' (⟨q,-⟩|⟨x2,va,vn,gs,q,q1,q2⟩)
     ·cases q
     ·injection q with q;subst q;obtain⟨aa,ac,e1⟩:=ownsRow_shape q2.ar;obtain⟨na,nc,e2⟩:=ownsRow_shape q2.nr;exact⟨va,vn,gs,aa,_,ac,na,_,nc,q1,e1,e2,q2⟩)
    clear hs hR
    go_wp2_with (go_at_call 75;refine HS.out.mono ?_;rintro e w8 ⟨va,vn,gs,aa,L,ac,na,G,nc,rfl,ea,en,hst8⟩;obtain⟨y1,yb⟩:=HYR.out w8 hst8.ex;have Y8:Hid (w8.heap[w.heap.size+1]?=some (.cells #[.bool false,.bool false,.int .i64 0,.string ⟨#[]⟩,.slice none 0 0,.slice none 0 0] 33)):=y1;have YB:Hid (Below w.heap.size w w8):=yb;have y3:∀ o,w8.frozen? ⟨w.heap.size+1,o,none⟩=false:=(fun o=>by simp[World.frozen?,Y8.out]);obtain⟨j0,j1,j2,j3,j4,j5⟩:=box6 y1;obtain⟨r0,r1,r2,r3,-,-⟩:=box6 HTC.out;have k0:=(hst8.cs 0 (by omega) (by omega)).trans r0;have k1:=(hst8.cs 1 (by omega) (by omega)).trans r1;have k2:=(hst8.cs 2 (by omega) (by omega)).trans r2;have k3:=(hst8.cs 3 (by omega) (by omega)).trans r3;have k4:=hst8.c4;have k5:=hst8.c5;have HST8:Hid (StsAt wc tb rs.length w8 va vn (x.1.map (·.ends)) x.2 gs):=hst8;rw[ea] at k4;rw[en] at k5;have HEA:Hid (va=.slice aa L ac∧vn=.slice na G nc):=⟨ea,en⟩;clear ea en hst8 y1 yb r0 r1 r2 r3)
    have hcf:=T6_own (.bool p.front) (.bool p.back) (.int .i64 0) (.string (ba cls)) (.slice aa L ac) (.slice na G nc) Y8.out
    have hbf:=T6_below (.bool p.front) (.bool p.back) (.int .i64 0) (.string (ba cls)) (.slice aa L ac) (.slice na G nc) YB.out (q:=w.heap.size+1) (by omega)
    have hkf:=fun b hb=>T6_blk w8 (w.heap.size+1) (.bool p.front) (.bool p.back) (.int .i64 0) (.string (ba cls)) (.slice aa L ac) (.slice na G nc) (b:=b) hb
    change bodyPost _ _ _ _ _ (T6 w8 (w.heap.size+1) (.bool p.front) (.bool p.back) (.int .i64 0) (.string (ba cls)) (.slice aa L ac) (.slice na G nc))
    obtain⟨q0,q1,q2,q3,q4,q5⟩:=box6 hcf
    generalize T6 w8 (w.heap.size+1) (.bool p.front) (.bool p.back) (.int .i64 0) (.string (ba cls)) (.slice aa L ac) (.slice na G nc)=Wf at *
    refine bodyPost_ret (v:=.tuple #[.agg #[.bool p.front,.bool p.back,.int .i64 0,.string (ba cls),.slice aa L ac,.slice na G nc],.bool true]) (by simp[results,Tryz.results41,go_sem,q0,q1,q2,q3,q4,q5]) rfl ⟨hbf,.inr ⟨⟨p.front,p.back,rd.map rs.idxOf,x.1.map (fun y:Stt=>y.ends),x.2⟩,va,vn,HSM.out,?_,?_⟩⟩
    ·rw[HCLS.out,HEA.out.1,HEA.out.2];rfl
    ·obtain⟨t1,t2⟩:=HST8.out.tab (W':=Wf) (fun b hb=>hkf b (by have:=HH1.out;omega))
     exact⟨t1,t2⟩
theorem mch_new {lo:Nat}{w1 w2:World}{g:Nat}{t:Tb}{c:Nat} (h:∀ w2,Hi lo w1 w2→AuIn w2 g t) (hok:TbOk t c) (hl:lo≤w1.heap.size) (k:Hi lo (w1.alloc (.cells #[.pointer (some ⟨g,0,none⟩)] 97)) w2):Mch w2 w1.heap.size t c:=by
 refine⟨g,?_,h w2 (((Hi.refl lo w1).alloc _).trans k),hok⟩
 have e:=k.block w1.heap.size hl (by simp)
 rw[cell_of_block e]
 simp[go_sem]
def compT (p:Sx.Ptn) (limit:Nat):Option Tb:=(searchM p limit).map fun t=>tbOf (leastM t)
def compM (s:List UInt8) (limit:Int):(Int×Int) ⊕ Tb:=
 if limit<1∨200<limit then .inl (2,0) else
 if 200<s.length then .inl (4,0) else
 match Sx.readP s with
 |.bad r'=>.inl (3,((s.length-r'.length:Nat):Int))
 |.ok p _=>if 20<Sx.nestCs p.choices then .inl (4,0) else
  match compT p limit.toNat with
  |none=>.inl (4,0)
  |some t=>.inr t
theorem searchM_k {p:Sx.Ptn}{limit:Nat}{t:Tn} (hl:1≤limit) (h:searchM p limit=some t):∃ n k,n≤limit∧k≤256∧TnOk n k t:=by
 unfold searchM at h
 split at h
 ·simp at h
 ·split at h
  ·simp at h
  ·rename_i x hx
   simp at h
   subst h
   obtain⟨h1,h2,h3,h4⟩:=stsM_ok (α:=Stt) (show[_].length≤limit from hl) (show StsInv _ [_] 0 [] from⟨rfl,Nat.zero_le _,fun r hr=>absurd hr (by simp)⟩) hx
   have h5:=h4.length_le
   simp at h5
   refine⟨x.1.length,_,h1,?_,⟨by omega,by simp[rdsM],fun c hc=>?_,by simp,h2,h3.r⟩⟩
   ·have:=metL_len [] (rdsM (exCs p.choices pc0 ⟨[],[]⟩).2.bs)
    simpa [rdsM] using this
   ·simp only[List.mem_map] at hc
    obtain⟨y,hy,rfl⟩:=hc
    exact idx_metL_lt hy
theorem readP_tr {s:List UInt8}{p:Sx.Ptn}{r:List UInt8} (h:Sx.readP s=.ok p r):TrOkVs p.choices:=by
 unfold Sx.readP at h
 split at h
 ·simp at h
 ·rename_i cs r' hc
  split at h
  ·injection h with e _
   subst e
   exact(pTr _).1 _ _ _ hc
  ·simp at h
theorem least_small {n k:Nat}{t:Tn} (h:TnOk n k t) (hn:n≤200) (hk:k≤256):isTb (tbOf (leastM t))=true∧Small (tbOf (leastM t)):=by
 have hi:=leastM_tb h hn
 obtain⟨c,ok⟩:=tbOk_of hi
 refine⟨hi,?_⟩
 have c2:=ok.c256
 have a1:=ok.a1
 have a2:=ok.a2
 have n1:=ok.n
 have hc:=h.cl
 exact⟨by unfold maxLen;omega,by unfold maxLen;omega,fun r hr=>by have:=(ok.r r hr).1;unfold maxLen;omega,by unfold maxLen;omega⟩
theorem comp_arg (w:World) (s:ByteArray) (limit:Int) (h:limit<1∨200<limit) :
  Calls Tryz.prog 14 #[.string s,.int .i64 limit] w fun e w'=>e=.returned (.tuple #[.pointer none,.int .i64 2,.int .i64 0])∧Below w.heap.size w w':=by
 by_cases h1:limit<1
 ·clear h
  go_enter Tryz.func14,Tryz.ntmps14
  go_wp2
  refine bodyPost_ret (v:=.tuple #[.pointer none,.int .i64 2,.int .i64 0]) (by simp[results,Tryz.results14,go_sem]) rfl ?_
  exact⟨rfl,Below.refl _ _⟩
 ·have h2:200<limit:=by omega
  clear h
  go_enter Tryz.func14,Tryz.ntmps14
  go_wp2
  refine bodyPost_ret (v:=.tuple #[.pointer none,.int .i64 2,.int .i64 0]) (by simp[results,Tryz.results14,go_sem]) rfl ?_
  exact⟨rfl,Below.refl _ _⟩
theorem comp_read (w:World) (s:ByteArray) (limit:Int) (h1:¬ limit<1) (h2:¬ 200<limit) (err pl:Int) (herr:(err==0)=false) (hr:Calls Tryz.prog 40 #[.string s] w fun e w'=>e=.returned (.tuple #[Sx.ptnV false false none 0 0,.int .i64 err,.int .i64 pl])∧Below w.heap.size w w') :
  Calls Tryz.prog 14 #[.string s,.int .i64 limit] w fun e w'=>e=.returned (.tuple #[.pointer none,.int .i64 err,.int .i64 pl])∧Below w.heap.size w w':=by
 have HR:Hid (Calls Tryz.prog 40 #[.string s] w fun e w'=>e=.returned (.tuple #[Sx.ptnV false false none 0 0,.int .i64 err,.int .i64 pl])∧Below w.heap.size w w'):=hr
 clear hr
 go_enter Tryz.func14,Tryz.ntmps14
 go_wp2_with (go_at_call 40;refine HR.out.mono ?_;rintro e w1 ⟨rfl,hb1⟩)
 refine bodyPost_ret (v:=.tuple #[.pointer none,.int .i64 err,.int .i64 pl]) (by simp[results,Tryz.results14,go_sem]) rfl ?_
 exact⟨rfl,hb1.alloc hb1.size _⟩
theorem comp_none (w:World) (s:ByteArray) (limit:Int) (h1:¬ limit<1) (h2:¬ 200<limit) (f b:Bool)
  (hr:Calls Tryz.prog 40 #[.string s] w fun e w1=>(∃ g0 n0 c0,e=.returned (.tuple #[Sx.ptnV f b g0 n0 c0,.int .i64 0,.int .i64 0])∧∀ W,Below w1.heap.size w1 W→Calls Tryz.prog 41 #[.agg #[.bool f,.bool b,.slice g0 n0 c0],.int .i64 limit] W fun e W2=>e=.returned (.tuple #[zT,.bool false])∧Below W.heap.size W W2)∧Below w.heap.size w w1) :
  Calls Tryz.prog 14 #[.string s,.int .i64 limit] w fun e w'=>e=.returned (.tuple #[.pointer none,.int .i64 4,.int .i64 0])∧Below w.heap.size w w':=by
 have HR:Hid (Calls Tryz.prog 40 #[.string s] w fun e w1=>(∃ g0 n0 c0,e=.returned (.tuple #[Sx.ptnV f b g0 n0 c0,.int .i64 0,.int .i64 0])∧∀ W,Below w1.heap.size w1 W→Calls Tryz.prog 41 #[.agg #[.bool f,.bool b,.slice g0 n0 c0],.int .i64 limit] W fun e W2=>e=.returned (.tuple #[zT,.bool false])∧Below W.heap.size W W2)∧Below w.heap.size w w1):=hr
 clear hr
 go_enter Tryz.func14,Tryz.ntmps14
 go_wp2_with (first|(go_at_call 41;refine(HS.out _ ((Below.refl _ _).alloc (Nat.le_refl _) _)).mono ?_;rintro e w2 ⟨rfl,hb2⟩;have HB2:Hid (Below w.heap.size w w2):=(hb1.alloc hb1.size _).trans (hb2.mono (by have:=hb1.size;simp;omega));clear hb2)|(go_at_call 40;refine HR.out.mono ?_;rintro e w1 ⟨⟨g0,n0,c0,rfl,hs⟩,hb1⟩;have HS:Hid (∀ W,Below w1.heap.size w1 W→Calls Tryz.prog 41 #[.agg #[.bool f,.bool b,.slice g0 n0 c0],.int .i64 limit] W fun e W2=>e=.returned (.tuple #[zT,.bool false])∧Below W.heap.size W W2):=hs;clear hs))
 refine bodyPost_ret (v:=.tuple #[.pointer none,.int .i64 4,.int .i64 0]) (by simp[results,Tryz.results14,go_sem]) rfl ?_
 exact⟨rfl,HB2.out.alloc HB2.out.size _⟩
theorem comp_some (w:World) (s:ByteArray) (limit:Int) (h1:¬ limit<1) (h2:¬ 200<limit) (f b:Bool) (T1 T2:Tb) (hi:isTb T2=true) (hsm:Small T2)
  (hr:Calls Tryz.prog 40 #[.string s] w fun e w1=>(∃ g0 n0 c0,e=.returned (.tuple #[Sx.ptnV f b g0 n0 c0,.int .i64 0,.int .i64 0])∧∀ W,Below w1.heap.size w1 W→Calls Tryz.prog 41 #[.agg #[.bool f,.bool b,.slice g0 n0 c0],.int .i64 limit] W fun e W2=>(∃ va vn,e=.returned (.tuple #[tv T1 va vn,.bool true])∧TabIn W2 T1 va vn)∧Below W.heap.size W W2)∧Below w.heap.size w w1)
  (hl:∀ W va vn,TabIn W T1 va vn→Calls Tryz.prog 43 #[tv T1 va vn] W fun e W'=>∃ va' vn',e=.returned (tv T2 va' vn')∧TabIn W' T2 va' vn'∧Below W.heap.size W W') :
  Calls Tryz.prog 14 #[.string s,.int .i64 limit] w fun e w'=>∃ m c,e=.returned (.tuple #[.pointer (some ⟨m,0,none⟩),.int .i64 0,.int .i64 0])∧(∀ w2,Hi w.heap.size w' w2→Mch w2 m T2 c)∧w.heap.size≤m∧Below w.heap.size w w':=by
 obtain⟨c,hok⟩:=tbOk_of hi
 have HOK:Hid (TbOk T2 c):=hok
 have HR:Hid (Calls Tryz.prog 40 #[.string s] w fun e w1=>(∃ g0 n0 c0,e=.returned (.tuple #[Sx.ptnV f b g0 n0 c0,.int .i64 0,.int .i64 0])∧∀ W,Below w1.heap.size w1 W→Calls Tryz.prog 41 #[.agg #[.bool f,.bool b,.slice g0 n0 c0],.int .i64 limit] W fun e W2=>(∃ va vn,e=.returned (.tuple #[tv T1 va vn,.bool true])∧TabIn W2 T1 va vn)∧Below W.heap.size W W2)∧Below w.heap.size w w1):=hr
 have HL:Hid (∀ W va vn,TabIn W T1 va vn→Calls Tryz.prog 43 #[tv T1 va vn] W fun e W'=>∃ va' vn',e=.returned (tv T2 va' vn')∧TabIn W' T2 va' vn'∧Below W.heap.size W W'):=hl
 have HNW:Hid (∀ w va vn,TabIn w T2 va vn→Calls Tryz.prog 42 #[tv T2 va vn] w fun e w'=>∃ g,e=.returned (.tuple #[.pointer (some ⟨g,0,none⟩),.bool true])∧w.heap.size≤g∧(∀ w2,Hi w.heap.size w' w2→AuIn w2 g T2)∧Below w.heap.size w w'):=fun w va vn h=>new_yesN w T2 va vn h hsm hi
 clear hr hl hi hsm hok
 go_enter Tryz.func14,Tryz.ntmps14
 go_wp2_with (first|(go_at_call 42;refine(HNW.out _ _ _ HT3.out).mono ?_;rintro e w4 ⟨g4,rfl,hg4,hau,hb4⟩;have HA:Hid (∀ w5,Hi w.heap.size w4 w5→AuIn w5 g4 T2):=(fun w5 k=>hau w5 (k.mono HB3.out.size));have HB4:Hid (Below w.heap.size w w4):=HB3.out.trans (hb4.mono HB3.out.size);clear hau hb4 hg4)|(go_at_call 43;refine(HL.out _ _ _ (HT2.out.below ((Below.refl _ _).alloc (Nat.le_refl _) _))).mono ?_;rintro e w3 ⟨va',vn',rfl,ht3,hb3⟩;have HT3:Hid (TabIn w3 T2 va' vn'):=ht3;have HB3:Hid (Below w.heap.size w w3):=(HB2.out.alloc HB2.out.size _).trans (hb3.mono (by have:=HB2.out.size;simp;omega));clear ht3 hb3)|(go_at_call 41;refine(HS.out _ ((Below.refl _ _).alloc (Nat.le_refl _) _)).mono ?_;rintro e w2 ⟨⟨va,vn,rfl,ht2⟩,hb2⟩;obtain⟨a,ca,a2,n2,c2,e1,e2⟩:=ht2.shapes;subst e1;subst e2;have HT2:Hid (TabIn w2 T1 (.slice a T1.acc.length ca) (.slice a2 n2 c2)):=ht2;have HB2:Hid (Below w.heap.size w w2):=(hb1.alloc hb1.size _).trans (hb2.mono (by have:=hb1.size;simp;omega));clear hb2 ht2)|(go_at_call 40;refine HR.out.mono ?_;rintro e w1 ⟨⟨g0,n0,c0,rfl,hs⟩,hb1⟩;have HS:Hid (∀ W,Below w1.heap.size w1 W→Calls Tryz.prog 41 #[.agg #[.bool f,.bool b,.slice g0 n0 c0],.int .i64 limit] W fun e W2=>(∃ va vn,e=.returned (.tuple #[tv T1 va vn,.bool true])∧TabIn W2 T1 va vn)∧Below W.heap.size W W2):=hs;clear hs))
 refine bodyPost_ret (v:=.tuple #[.pointer (some ⟨w4.heap.size,0,none⟩),.int .i64 0,.int .i64 0]) (by simp[results,Tryz.results14,go_sem]) rfl ?_
 exact⟨_,c,rfl,fun w2 k=>mch_new HA.out HOK.out HB4.out.size k,HB4.out.size,HB4.out.alloc HB4.out.size _⟩
def CompRes (w w':World) (r:(Int×Int) ⊕ Tb) (e:Ending):Prop:=match r with
 |.inl x=>e=.returned (.tuple #[.pointer none,.int .i64 x.1,.int .i64 x.2])
 |.inr t=>∃ m c,e=.returned (.tuple #[.pointer (some ⟨m,0,none⟩),.int .i64 0,.int .i64 0])∧(∀ w2,Hi w.heap.size w' w2→Mch w2 m t c)∧w.heap.size≤m
theorem repCs_len {w:World}{S:Nat→Prop}{cs:List (List Prt)}{g0:Option Addr}{n0 c0:Nat} (h:Sx.RepCs w S cs (.slice g0 n0 c0)):n0=cs.length:=by
 obtain⟨vs,⟨-,q⟩,-⟩:=h
 rcases q with⟨e,h0⟩|⟨g,cap,cur,e,-⟩
 ·injection e with _ e2 _;omega
 ·injection e
theorem comp_any (w:World) (s:ByteArray) (limit:Int) (hS:Sx.Tabs w) (hT:TabZ w) (hs:s.size≤maxLen) :
  Calls Tryz.prog 14 #[.string s,.int .i64 limit] w fun e w'=>CompRes w w' (compM s.data.toList limit) e∧Below w.heap.size w w':=by
 by_cases hlim:limit<1∨200<limit
 ·have hc:compM s.data.toList limit=.inl (2,0):=by unfold compM;rw[if_pos hlim]
  rw[hc]
  exact comp_arg w s limit hlim
 ·have h1:¬ limit<1:=fun h=>hlim (.inl h)
  have h2:¬ 200<limit:=fun h=>hlim (.inr h)
  have hsl:s.data.toList.length=s.size:=by simp
  have hr:=Sx.read_any w s hS hs
  unfold compM
  rw[if_neg hlim,hsl]
  by_cases h200:200<s.size
  ·rw[if_pos h200]
   refine comp_read w s limit h1 h2 4 0 rfl (hr.mono ?_)
   rintro e w' ⟨q|q|q|q,hb⟩
   ·exact⟨q.2,hb⟩
   ·exact absurd q.1 (by omega)
   ·exact absurd q.1 (by omega)
   ·exact absurd q.1 (by omega)
  ·rw[if_neg h200]
   cases hR:Sx.readP s.data.toList with
   |bad r'=>
    simp only
    refine comp_read w s limit h1 h2 3 _ rfl (hr.mono ?_)
    rintro e w' ⟨q|⟨-,r2,q1,q2⟩|⟨-,p,q1,-⟩|⟨-,p,q1,-⟩,hb⟩
    ·exact absurd q.1 h200
    ·rw[hR] at q1;injection q1 with q1;subst q1;exact⟨q2,hb⟩
    ·rw[hR] at q1;cases q1
    ·rw[hR] at q1;cases q1
   |ok p r'=>
    obtain rfl:=Sx.readP_rest hR
    simp only
    by_cases hn:20<Sx.nestCs p.choices
    ·rw[if_pos hn]
     refine comp_read w s limit h1 h2 4 0 rfl (hr.mono ?_)
     rintro e w' ⟨q|⟨-,r2,q1,q2⟩|⟨-,p2,q1,q2,q3⟩|⟨-,p2,q1,q2,-⟩,hb⟩
     ·exact absurd q.1 h200
     ·rw[hR] at q1;cases q1
     ·exact⟨q3,hb⟩
     ·rw[hR] at q1;injection q1 with q1;subst q1;omega
    ·rw[if_neg hn]
     obtain⟨n,rfl⟩:∃ n:Nat,limit=n:=⟨limit.toNat,by omega⟩
     have hl:1≤n∧n≤200:=by omega
     rw[Int.toNat_natCast]
     have hread:Calls Tryz.prog 40 #[.string s] w fun e w1=>(∃ g0 n0 c0,e=.returned (.tuple #[Sx.ptnV p.front p.back g0 n0 c0,.int .i64 0,.int .i64 0])∧∀ W,Below w1.heap.size w1 W→Calls Tryz.prog 41 #[.agg #[.bool p.front,.bool p.back,.slice g0 n0 c0],.int .i64 (n:Int)] W fun e W2=>Below W.heap.size W W2∧((searchM p n=none∧e=.returned (.tuple #[zT,.bool false]))∨∃ t va vn,searchM p n=some t∧e=.returned (.tuple #[tv (tbOf t) va vn,.bool true])∧TabIn W2 (tbOf t) va vn))∧Below w.heap.size w w1:=by
      refine hr.mono ?_
      rintro e w1 ⟨q|⟨-,r2,q1,q2⟩|⟨-,p2,q1,q2,q3⟩|⟨-,p2,q1,q2,g0,n0,c0,q3,q4⟩,hb⟩
      ·exact absurd q.1 h200
      ·rw[hR] at q1;cases q1
      ·rw[hR] at q1;injection q1 with q1;subst q1;omega
      ·rw[hR] at q1;injection q1 with q1;subst q1
       obtain rfl:=repCs_len q3
       have hz:=hb.size
       have ht:=hT.lt
       refine⟨⟨g0,_,c0,q4,fun W hW=>?_⟩,hb⟩
       have hzW:=hW.size
       exact searchT_any W p g0 c0 n hl (hT.keep ((hW.block 1 (by omega)).trans (hb.block 1 ht))) (by omega) (readP_tr hR) (q3.of_heap (fun g hg hlt=>⟨by omega,hW.block g hlt⟩))
     cases hM:searchM p n with
     |none=>
      have hc:compT p n=none:=by unfold compT;rw[hM];rfl
      rw[hc]
      simp only
      refine comp_none w s n h1 h2 p.front p.back (hread.mono ?_)
      rintro e w1 ⟨⟨g0,n0,c0,q1,q2⟩,hb⟩
      refine⟨⟨g0,n0,c0,q1,fun W hW=>(q2 W hW).mono ?_⟩,hb⟩
      rintro e W2 ⟨hb2,⟨-,q⟩|⟨t,va,vn,q,-⟩⟩
      ·exact⟨q,hb2⟩
      ·rw[hM] at q;cases q
     |some t=>
      have hc:compT p n=some (tbOf (leastM t)):=by unfold compT;rw[hM];rfl
      rw[hc]
      simp only
      obtain⟨m,k,hm,hk,hok⟩:=searchM_k hl.1 hM
      obtain⟨i1,i2⟩:=least_small hok (by omega) hk
      refine(comp_some w s n h1 h2 p.front p.back (tbOf t) (tbOf (leastM t)) i1 i2 (hread.mono ?_) (fun W va vn ht=>leastT_any W t m k hok (by omega) hk va vn ht.acc ht.next)).mono ?_
      ·rintro e w1 ⟨⟨g0,n0,c0,q1,q2⟩,hb⟩
       refine⟨⟨g0,n0,c0,q1,fun W hW=>(q2 W hW).mono ?_⟩,hb⟩
       rintro e W2 ⟨hb2,⟨q,-⟩|⟨t2,va,vn,q,q3,q4⟩⟩
       ·rw[hM] at q;cases q
       ·rw[hM] at q;injection q with q;subst q;exact⟨⟨va,vn,q3,q4⟩,hb2⟩
      ·rintro e w' ⟨g,c,q1,q2,q3,q4⟩
       exact⟨⟨g,c,q1,q2,q3⟩,q4⟩
end Go.Proofs.YtbjabpodkaokjaaGreatDoor

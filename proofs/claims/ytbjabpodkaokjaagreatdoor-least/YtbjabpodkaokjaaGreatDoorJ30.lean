import Derived.Test.YtbjabpodkaokjaaGreatDoorJ29
set_option linter.unusedVariables false
set_option linter.unusedSimpArgs false
set_option maxHeartbeats 4000000
set_option maxRecDepth 100000
namespace Go.Proofs.YtbjabpodkaokjaaGreatDoor
open Go.RowKit
structure StsAt (w:World) (tb K:Nat) (W:World) (va vn:Value) (acc:List Bool) (rows:List (List Nat)) (gs:List Nat):Prop where
 c4:W.cell? ⟨tb,4,none⟩=some va
 ar:W.ownsRow (w.heap.size+2) 4 1 va acc.length (acc.map eB)
 c5:W.cell? ⟨tb,5,none⟩=some vn
 nr:W.ownsRow (w.heap.size+2) 40 1 vn gs.length (gs.map (rowV K))
 gl:gs.length=rows.length
 rw:∀ j (h1:j<gs.length) (h2:j<rows.length),W.heap[gs[j]]?=some (.cells (rows[j].map eN).toArray 3 (0,0))∧w.heap.size+2≤gs[j]∧rows[j].length=K
 cs:∀ o,o≠4→o≠5→W.cell? ⟨tb,o,none⟩=w.cell? ⟨tb,o,none⟩
 ex:Exc (fun b=>b=tb) w W
theorem SI.at_ {w:World}{tb K:Nat}{W:World}{v va vn:Value}{met:List Stt}{tk:Nat}{acc:List Bool}{rows:List (List Nat)}{gs:List Nat} (h:SI w tb K W v va vn met tk acc rows gs):StsAt w tb K W va vn acc rows gs:=⟨h.c4,h.ar,h.c5,h.nr,h.gl,h.rw,h.cs,h.ex⟩
structure SPre (w:World) (sb tb:Nat) (vf vr:Value) (s:Sr) (n:Nat) (rs:List W4):Prop where
 tz:TabZ w
 s1:1<sb
 st:sb<tb
 sr:SrAt w sb vf s
 ok:SrOk n s
 rc:w.cell? ⟨sb,12,none⟩=some vr
 rf:FsAt 150 w (sb+1) vr rs
 rn:vr.ownBlock≠some tb
 fn:vf.ownBlock≠some tb
 rk:∀ r∈rs,Sp n r
 rl:rs.length≤256
 t4:w.cell? ⟨tb,4,none⟩=some (.slice none 0 0)
 t5:w.cell? ⟨tb,5,none⟩=some (.slice none 0 0)
 tf:∀ o,w.frozen? ⟨tb,o,none⟩=false
theorem SPre.keep {w W:World}{sb tb:Nat}{vf vr:Value}{s:Sr}{n:Nat}{rs:List W4} (h:SPre w sb tb vf vr s n rs) (hx:Exc (fun b=>b=tb) w W):TabZ W∧SrAt W sb vf s∧W.cell? ⟨sb,12,none⟩=some vr∧FsAt 150 W (sb+1) vr rs:=by
 have h1:=h.s1
 have h2:=h.st
 have es:=hx.block sb h.sr.lt (by omega)
 refine⟨h.tz.keep (hx.block 1 h.tz.lt (by omega)),h.sr.keep es (fun b hb=>hx.block b (h.sr.fs.lt hb).2 (fun q=>h.fn (q▸hb))),?_,h.rf.blk (fun b hb=>hx.block b (h.rf.lt hb).2 (fun q=>h.rn (q▸hb)))⟩
 rw[←h.rc];simp[World.cell?,es]
theorem stepM_ok {s:Sr}{n:Nat} (hk:SrOk n s) (q:Stt) {rd:W4} (hrd:Sp n rd):(stepM s q rd).ok:=by
 have h1:Sp n (orAll s.fs (q.w.and rd).all W4.none):=orAll_sp _ hk.f (Sp.none n)
 unfold stepM
 split
 ·have:=h1.ok hk.n64
  exact⟨this.l0,this.l1,this.l2,this.l3⟩
 ·have:=(h1.or hk.w.f).ok hk.n64
  exact⟨this.l0,this.l1,this.l2,this.l3⟩
theorem mkA_rep' (n:Nat) (z:Value) (hz:z.cells=#[z]):mkA n z=(List.replicate n z).toArray:=by
 apply Array.ext
 ·simp[mkA,madeCells,hz]
 ·intro i h1 h2
  have:=made_one hz n i (by simpa using h2)
  rw[Array.getElem?_eq_getElem h1] at this
  simpa using this
def rowP (full:List Nat) (c:Nat):List Nat:=full.take c++List.replicate (full.length-c) 0
theorem rowP_zero (full:List Nat):rowP full 0=List.replicate full.length 0:=by simp[rowP]
theorem rowP_all (full:List Nat):rowP full full.length=full:=by simp[rowP]
theorem rowP_set (full:List Nat) (c:Nat) (h:c<full.length):(rowP full c).set c full[c]=rowP full (c+1):=by
 obtain⟨d,hd⟩:∃ d,full.length-c=d+1:=⟨full.length-c-1,by omega⟩
 unfold rowP
 rw[hd,List.replicate_succ,show full.length-(c+1)=d by omega,List.set_append_right _ _ (by simp;omega),List.length_take,Nat.min_eq_left (by omega),Nat.sub_self,List.set_cons_zero,List.take_succ_eq_append_getElem h,List.append_assoc]
 rfl
theorem rowP_len (full:List Nat) (c:Nat) (h:c≤full.length):(rowP full c).length=full.length:=by simp[rowP];omega
structure RB (W:World) (qb rb:Nat) (x:W4) (b:Bool) (r:List Nat):Prop where
 q:W.heap[qb]?=some (.cells (stC x b) 244)
 r:W.heap[rb]?=some (.cells (r.map eN).toArray 3 (0,0))
theorem RB.keep {W W':World}{qb rb:Nat}{x:W4}{b:Bool}{r:List Nat} (h:RB W qb rb x b r) (k1:W'.heap[qb]?=W.heap[qb]?) (k2:W'.heap[rb]?=W.heap[rb]?):RB W' qb rb x b r:=⟨k1.trans h.q,k2.trans h.r⟩
theorem RB.below {W W':World}{qb rb:Nat}{x:W4}{b:Bool}{r:List Nat} (h:RB W qb rb x b r) (hb:Below W.heap.size W W'):RB W' qb rb x b r:=h.keep (hb.block _ (Array.getElem?_eq_some_iff.1 h.q).1) (hb.block _ (Array.getElem?_eq_some_iff.1 h.r).1)
theorem RB.set {W:World}{qb rb:Nat}{x:W4}{b:Bool}{r:List Nat} (h:RB W qb rb x b r) (hne:qb≠rb) (c z:Nat):RB (W.setCell ⟨rb,c,none⟩ (eN z)) qb rb x b (r.set c z):=by
 refine⟨(set_blk _ _ _ _ hne).trans h.q,?_⟩
 rw[set_own h.r]
 simp[List.map_set]
def takenOf (p:Nat) (w:World):Nat:=match w.cell? ⟨p,2,none⟩ with|some (.int _ z)=>z.toNat|_=>0
theorem takenOf_at {te:TypeId}{size:Nat}{w:World}{p mb:Nat}{v:Value}{vs:List Value}{tk:Nat} (h:NumAt te size w p mb v vs tk):takenOf p w=tk:=by
 unfold takenOf
 rw[h.c2];simp
theorem states_any (w:World) (sb tb:Nat) (vf vr:Value) (s:Sr) (n:Nat) (rs:List W4) (limit:Nat) (hl:1≤limit∧limit≤200) (h:SPre w sb tb vf vr s n rs) (R:Option (List Stt×List (List Nat))) (hR:R=stsM (stepM s) rs limit 202 [stOf s.whole.first s.whole.empty] 0 []) :
  Calls Tryz.prog 75 #[.pointer (some ⟨sb,0,none⟩),.pointer (some ⟨tb,0,none⟩),.int .i64 (limit:Int)] w fun e w'=>(R=none∧e=.returned (.bool false)∧Exc (fun b=>b=tb) w w')∨(∃ x va vn gs,R=some x∧e=.returned (.bool true)∧StsAt w tb rs.length w' va vn (x.1.map (·.ends)) x.2 gs):=by
 have HP:Hid (SPre w sb tb vf vr s n rs):=h
 have hnew:=newSt_any w
 clear h
 have hwf:s.whole.first.ok:=HP.out.ok.w.f.ok HP.out.ok.n64
 have hsr:=HP.out.sr
 have HFIRST:Hid (∀ w1,NumAt 244 5 w1 (w.heap.size+1) w.heap.size (.slice none 0 0) [] 0→Below w.heap.size w w1→SI w tb rs.length w1 (.slice none 0 0) (.slice none 0 0) (.slice none 0 0) [] 0 [] [] []):=fun w1 hn hb=>by
  have htl:tb<w.heap.size:=cell_lt HP.out.t4
  have et:=hb.block tb htl
  refine⟨hn,fun g hg=>by simp[Value.ownBlock] at hg,?_,World.ownsRow_nil _ _ _ _,?_,World.ownsRow_nil _ _ _ _,rfl,fun j h1=>by simp at h1,fun o _ _=>by simp[World.cell?,et],fun o=>?_,Exc.of_below _ hb,htl⟩
  ·rw[←HP.out.t4];simp[World.cell?,et]
  ·rw[←HP.out.t5];simp[World.cell?,et]
  ·rw[←HP.out.tf o];simp[World.frozen?,et]
 have HR:Hid (R=stsM (stepM s) rs limit 202 [stOf s.whole.first s.whole.empty] 0 []):=hR
 clear hR
 obtain⟨J,hJ⟩:∃ J:Act→World→Prop,∀ a' w',J a' w'↔((∃ tk met rows v va vn gs,SI w tb rs.length w' v va vn met tk ((met.take tk).map (·.ends)) rows gs∧(∀ q∈met,q.ok)∧met.Nodup∧met.length≤limit∧rows.length=tk∧stsM (stepM s) rs limit (202-tk) met tk rows=R)∧∃ u8 u9 u10 u11 u12 u13 u14 u15 u16 u17 u18 u19 u20 u21 u22 u23 u24 u25 u26 u27 u28 u29 u30 u31 u32 u33 u34 u35 u36 u37 u38 u39 u40 u41 u42 u43 u44 u45 u46 u47 u48 u49 u50 u51 u52 u53 u54 u55 u56 u57 u58 u59 u60 u61 u62 u63 u64 u65 u66 u67 u68 u69 u70 u71 u72 u73 u74 u75 u76 u77 u78 u79 u80 u81 u82 u83 u84,a'={tmps:=#[.pointer (some ⟨sb,0,none⟩),.pointer (some ⟨tb,0,none⟩),.int .i64 (limit:Int),undef,undef,undef,.bool false,.pointer (some ⟨w.heap.size+1,0,none⟩),u8,u9,u10,u11,u12,u13,u14,u15,u16,u17,u18,u19,u20,u21,u22,u23,u24,u25,u26,u27,u28,u29,u30,u31,u32,u33,u34,u35,u36,u37,u38,u39,u40,u41,u42,u43,u44,u45,u46,u47,u48,u49,u50,u51,u52,u53,u54,u55,u56,u57,u58,u59,u60,u61,u62,u63,u64,u65,u66,u67,u68,u69,u70,u71,u72,u73,u74,u75,u76,u77,u78,u79,u80,u81,u82,u83,u84],defers:=[]}):=⟨_,fun _ _=>Iff.rfl⟩
 have HJ:Hid (∀ a' w',J a' w'↔((∃ tk met rows v va vn gs,SI w tb rs.length w' v va vn met tk ((met.take tk).map (·.ends)) rows gs∧(∀ q∈met,q.ok)∧met.Nodup∧met.length≤limit∧rows.length=tk∧stsM (stepM s) rs limit (202-tk) met tk rows=R)∧∃ u8 u9 u10 u11 u12 u13 u14 u15 u16 u17 u18 u19 u20 u21 u22 u23 u24 u25 u26 u27 u28 u29 u30 u31 u32 u33 u34 u35 u36 u37 u38 u39 u40 u41 u42 u43 u44 u45 u46 u47 u48 u49 u50 u51 u52 u53 u54 u55 u56 u57 u58 u59 u60 u61 u62 u63 u64 u65 u66 u67 u68 u69 u70 u71 u72 u73 u74 u75 u76 u77 u78 u79 u80 u81 u82 u83 u84,a'={tmps:=#[.pointer (some ⟨sb,0,none⟩),.pointer (some ⟨tb,0,none⟩),.int .i64 (limit:Int),undef,undef,undef,.bool false,.pointer (some ⟨w.heap.size+1,0,none⟩),u8,u9,u10,u11,u12,u13,u14,u15,u16,u17,u18,u19,u20,u21,u22,u23,u24,u25,u26,u27,u28,u29,u30,u31,u32,u33,u34,u35,u36,u37,u38,u39,u40,u41,u42,u43,u44,u45,u46,u47,u48,u49,u50,u51,u52,u53,u54,u55,u56,u57,u58,u59,u60,u61,u62,u63,u64,u65,u66,u67,u68,u69,u70,u71,u72,u73,u74,u75,u76,u77,u78,u79,u80,u81,u82,u83,u84],defers:=[]})):=hJ
 clear hJ
 go_enter Tryz.func75,Tryz.ntmps75
 go_wp2
 refine Sx.wp_scope_once 0 J (fun _ w'=>202-takenOf (w.heap.size+1) w') rfl ?_ ?_
 ·intro hp
  have HPP:Hid _:=hp
  clear hp
  go_wp2_with (go_at_call 129;refine hnew.mono ?_;rintro e w1 ⟨rfl,hn1,hb1⟩;have HI1:Hid (SI w tb rs.length w1 (.slice none 0 0) (.slice none 0 0) (.slice none 0 0) [] 0 [] [] []):=HFIRST.out w1 hn1 hb1;have hsr1:=hsr.below hb1;clear hn1 hb1)
  obtain⟨-,-,f0,f1,f2,f3,-,-,-,-,em,-⟩:=hsr1
  have hof:=ofSt_any w1.drew (w.heap.size+1) w.heap.size (.slice none 0 0) [] 0 (stOf s.whole.first s.whole.empty) ((HI1.out.below (Below.refl _ _).drew).num) (by simp) ⟨hwf.l0,hwf.l1,hwf.l2,hwf.l3⟩ (by simp) (by simp)
  simp only[Stt.v,stOf] at hof
  go_region_with (go_at_call 130;refine hof.mono ?_;rintro e w2 ⟨rfl,v2,hn2,hg2,hx2⟩;have HI2:Hid (SI w tb rs.length w2 v2 (.slice none 0 0) (.slice none 0 0) [stOf s.whole.first s.whole.empty] 0 [] [] []):=(HI1.out.below (Below.refl _ _).drew).of hn2 hg2 hx2;clear hn2 hg2 hx2)
  all_goals (
   go_wp2
   go_step3
   exact ‹∀ a w,Code.wp _ _ _ a w→_› _ _ (HPP.out _ _ ((HJ.out _ _).2 ⟨⟨0,[stOf s.whole.first s.whole.empty],[],v2,.slice none 0 0,.slice none 0 0,[],HI2.out,by simp;exact⟨hwf.l0,hwf.l1,hwf.l2,hwf.l3⟩,by simp,by simp;omega,rfl,HR.out.symm⟩,_,_,_,_,_,_,_,_,_,_,_,_,_,_,_,_,_,_,_,_,_,_,_,_,_,_,_,_,_,_,_,_,_,_,_,_,_,_,_,_,_,_,_,_,_,_,_,_,_,_,_,_,_,_,_,_,_,_,_,_,_,_,_,_,_,_,_,_,_,_,_,_,_,_,_,_,_,rfl⟩)))
 ·intro a' w' hj
  obtain⟨⟨tk,met,rows,v,va,vn,gs,hsi,hmok,hnd,hml,hrl,heq⟩,u8,u9,u10,u11,u12,u13,u14,u15,u16,u17,u18,u19,u20,u21,u22,u23,u24,u25,u26,u27,u28,u29,u30,u31,u32,u33,u34,u35,u36,u37,u38,u39,u40,u41,u42,u43,u44,u45,u46,u47,u48,u49,u50,u51,u52,u53,u54,u55,u56,u57,u58,u59,u60,u61,u62,u63,u64,u65,u66,u67,u68,u69,u70,u71,u72,u73,u74,u75,u76,u77,u78,u79,u80,u81,u82,u83,u84,rfl⟩:=(HJ.out _ _).1 hj
  clear hj
  have HSI:Hid (SI w tb rs.length w' v va vn met tk ((met.take tk).map (·.ends)) rows gs):=hsi
  have HTK:Hid (NumAt 244 5 w' (w.heap.size+1) w.heap.size v (met.map Stt.v) tk):=hsi.num
  have htk:=hsi.num.tl
  simp only[List.length_map] at htk
  obtain⟨f,hf⟩:∃ f,202-tk=f+1:=⟨201-tk,by omega⟩
  rw[hf] at heq
  simp only[stsM] at heq
  cases hq:met[tk]? with
  |none=>
   have hte:tk=met.length:=by have:=List.getElem?_eq_none_iff.1 hq;omega
   rw[hq] at heq
   simp only at heq
   have HQ:Hid (R=some (met,rows)):=heq.symm
   subst hte
   have hnx:=nextSt_none w' (w.heap.size+1) w.heap.size v (met.map Stt.v) (by have:=hsi.num;simpa using this)
   clear heq hsi
   go_wp2_with (go_at_call 131;refine hnx.mono ?_;rintro e w2 ⟨rfl,hb2⟩;have HI2:Hid (SI w tb rs.length w2 v va vn met met.length ((met.take met.length).map (·.ends)) rows gs):=HSI.out.below hb2;clear hb2)
   simp only[Exit.jump]
   go_ret
   have hfin:=HI2.out.below (show Below w2.heap.size w2 (w2.alloc (.cells #[.int .u64 0,.int .u64 0,.int .u64 0,.int .u64 0,.bool false] 244)) from(Below.refl _ _).alloc (Nat.le_refl _) _)
   rw[List.take_length] at hfin
   exact .inr ⟨(met,rows),va,vn,gs,HQ.out,rfl,hfin.at_⟩
  |some q=>
   have htl:=(List.getElem?_eq_some_iff.1 hq).1
   rw[hq] at heq
   simp only at heq
   have hqv:(met.map Stt.v)[tk]?=some (stV q.x0 q.x1 q.x2 q.x3 q.ends):=by rw[List.getElem?_map,hq];rfl
   have hqok:q.ok:=hmok q (List.mem_of_getElem? hq)
   have hnx:=nextSt_some w' (w.heap.size+1) w.heap.size v (met.map Stt.v) tk q.x0 q.x1 q.x2 q.x3 q.ends hsi.num hqv (by simp;omega)
   have HEQ:Hid ((if limit<(metL met (rs.map (stepM s q))).length then none else stsM (stepM s) rs limit f (metL met (rs.map (stepM s q))) (tk+1) (rows++[(rs.map (stepM s q)).map (metL met (rs.map (stepM s q))).idxOf]))=R):=heq
   have HACC:Hid ((met.take (tk+1)).map (·.ends)=(met.take tk).map (·.ends)++[q.ends]):=by
    show _=_
    obtain⟨h1,h2⟩:=List.getElem?_eq_some_iff.1 hq
    rw[List.take_succ_eq_append_getElem h1,List.map_append,h2];rfl
   have hmlt:∀ g,g∈gs→g<w'.heap.size:=fun g hg=>by
    obtain⟨j,hj,rfl⟩:=List.getElem_of_mem hg
    exact(Array.getElem?_eq_some_iff.1 (hsi.rw j hj (by rw[←hsi.gl];exact hj)).1).1
   obtain⟨K,hK⟩:∃ K,K=rs.length:=⟨_,rfl⟩
   have hK256:K≤256:=by rw[hK];exact HP.out.rl
   rw[←hK] at HSI
   have HK:Hid (K=rs.length):=hK
   obtain⟨iI,hiI,hzI,hz1I,hz2I⟩:=info_parts Tryz.infoI
   have hmk:=fun w0=>make_eq Tryz.underlying40 hiI hzI hz1I hz2I K (by omega) (by unfold maxLen;omega) w0
   obtain⟨va',vc',hvr⟩:=HP.out.rf.form
   rw[←hK] at hvr
   have HVR:Hid (vr=.slice va' K vc'):=hvr
   have HKP:Hid (∀ W,Exc (fun b=>b=tb) w W→TabZ W∧SrAt W sb vf s∧W.cell? ⟨sb,12,none⟩=some (.slice va' K vc')∧FsAt 150 W (sb+1) (.slice va' K vc') rs):=fun W hx=>by
    have:=HP.out.keep hx
    rw[HVR.out] at this
    exact this
   have hne12:∀ W:World,¬(sb=W.heap.size+100000000000)∨True:=fun _=>.inr trivial
   clear hne12 heq hsi hq hK hvr hqv
   go_wp2_with (go_at_call 131;refine hnx.mono ?_;rintro e w2 ⟨rfl,hn2,hx2⟩;have hi2:SI w tb K w2 v va vn met (tk+1) ((met.take tk).map (·.ends)) rows gs:=HSI.out.of hn2 (fun g hg=>.inl hg) hx2;have HI2:Hid (SI w tb K w2 v va vn met (tk+1) ((met.take tk).map (·.ends)) rows gs):=hi2;have hsz2:=hx2.size;have hrc2:=(HKP.out w2 hi2.ex).2.2.1;have hslt:sb<w2.heap.size:=cell_lt hrc2;have hrcn:=(fun ob=>cell_below ((Below.refl _ _).alloc (Nat.le_refl _) ob:Below w2.heap.size w2 (w2.alloc ob)) hrc2);clear hn2 hx2 hi2)
   obtain⟨w3,hw3⟩:∃ w3,w3=(w2.alloc (.cells #[.int .u64 (q.x0:Int),.int .u64 (q.x1:Int),.int .u64 (q.x2:Int),.int .u64 (q.x3:Int),.bool q.ends] 244)).alloc (.cells (mkA K (.int .i64 0)) 3):=⟨_,rfl⟩
   rw[←hw3]
   have hb3:Below w2.heap.size w2 w3:=by rw[hw3];exact((Below.refl _ _).alloc (Nat.le_refl _) _).alloc (by simp) _
   have hz3:w3.heap.size=w2.heap.size+2:=by rw[hw3];simp
   have hrb3:RB w3 w2.heap.size (w2.heap.size+1) q.w q.ends (List.replicate K 0):=by
    refine⟨?_,?_⟩
    ·rw[hw3,Below.heap_alloc _ _ _ (by simp)];exact heap_alloc_new w2 _
    ·have e0:((List.replicate K 0).map eN).toArray=mkA K (.int .i64 0):=by rw[mkA_rep' _ _ rfl,List.map_replicate];rfl
     rw[e0,hw3]
     have:=heap_alloc_new (w2.alloc (.cells #[.int .u64 (q.x0:Int),.int .u64 (q.x1:Int),.int .u64 (q.x2:Int),.int .u64 (q.x3:Int),.bool q.ends] 244)) (.cells (mkA K (.int .i64 0)) 3)
     simpa using this
   have HI3:Hid (SI w tb K w3 v va vn met (tk+1) ((met.take tk).map (·.ends)) rows gs):=HI2.out.below hb3
   obtain⟨full,hfull⟩:∃ full,full=(rs.map (stepM s q)).map (metL met (rs.map (stepM s q))).idxOf:=⟨_,rfl⟩
   have hfl:full.length=K:=by rw[hfull];simp;exact HK.out.symm
   have HRB3:Hid (RB w3 w2.heap.size (w2.heap.size+1) q.w q.ends (rowP full 0)):=by rw[rowP_zero,hfl];exact hrb3
   have HFU:Hid (full=(rs.map (stepM s q)).map (metL met (rs.map (stepM s q))).idxOf):=hfull
   obtain⟨H2,hH2⟩:∃ H2,H2=w2.heap.size:=⟨_,rfl⟩
   have HGS:Hid (∀ g∈gs,g<H2):=fun g hg=>by have:=hmlt g hg;omega
   have hH2w:w.heap.size+2≤H2:=by have:=HI2.out.num.lt (.inl rfl);omega
   have hz3':w3.heap.size=H2+2:=by omega
   rw[←hH2] at HRB3 ⊢
   have HZ3:Hid (w3.heap.size=H2+2):=hz3'
   have HVO:Hid (∀ g,v.ownBlock=some g→g≠H2∧g≠H2+1):=fun g hg=>by have:=own_lt HI2.out.num.own hg;omega
   clear hw3 hb3 hz3 hrb3 hfull hH2 hrc2 hrcn hnx hmlt hslt hsz2 hmk hz3' HI2
   have HRSP:=HP.out.rk
   have HNUM:Hid (∀ c,c≤K→(∀ y∈metL met ((rs.take c).map (stepM s q)),y.ok)∧(metL met ((rs.take c).map (stepM s q))).Nodup∧(metL met ((rs.take c).map (stepM s q))).length≤456):=fun c hc=>by
    refine⟨fun y hy=>?_,metL_nodup hnd _,?_⟩
    ·rcases mem_metL.1 hy with hy|hy
     ·exact hmok y hy
     ·obtain⟨r,hr,rfl⟩:=List.mem_map.1 hy
      exact stepM_ok HP.out.ok q (HRSP r (List.mem_of_mem_take hr))
    ·have h1:=metL_len met ((rs.take c).map (stepM s q))
     have h2:=HP.out.rl
     rw[List.length_map,List.length_take] at h1
     omega
   go_loopw [45] (fun i wr=>∃(c:Nat) (v':Value),c≤K∧i=.int .i64 c∧SI w tb K wr v' va vn (metL met ((rs.take c).map (stepM s q))) (tk+1) ((met.take tk).map (·.ends)) rows gs∧RB wr H2 (H2+1) q.w q.ends (rowP full c)∧(∀ g,v'.ownBlock=some g→g≠H2∧g≠H2+1)) (fun i _=>K-(intOf i).toNat)
   case atStart=>exact⟨0,v,by omega,rfl,HI3.out,HRB3.out,HVO.out⟩
   case round=>
    obtain⟨c,v',hc,rfl,hsi,hrb,hvo⟩:=hrel
    have HVQ:Hid (∀ g,v'.ownBlock=some g→g≠H2∧g≠H2+1):=hvo
    clear hvo
    have HSC:Hid (SI w tb K wr v' va vn (metL met ((rs.take c).map (stepM s q))) (tk+1) ((met.take tk).map (·.ends)) rows gs):=hsi
    have HRB:Hid (RB wr H2 (H2+1) q.w q.ends (rowP full c)):=hrb
    by_cases hlt:c<K
    ·have hltI:(c:Int)<K:=by omega
     have hcr:c<rs.length:=by have:=HK.out;omega
     obtain⟨htz,hsrc,hrc,hrf⟩:=HKP.out wr hsi.ex
     obtain⟨g,cap,e1,hg,hat⟩:=hrf.at hcr
     simp only[Value.slice.injEq] at e1
     obtain⟨rfl,-,rfl⟩:=e1
     obtain⟨x0,x1,x2,x3,-⟩:=hat
     have hrd:Sp n rs[c]:=HRSP _ (List.getElem_mem _)
     have hnum:=HNUM.out c hc
     have HSUC:Hid (metL met ((rs.take (c+1)).map (stepM s q))=pushM (metL met ((rs.take c).map (stepM s q))) (stepM s q rs[c])):=by
      show _=_
      rw[List.take_succ_eq_append_getElem hcr,List.map_append,metL_append];rfl
     have HFC:Hid (full[c]'(by omega)=(pushM (metL met ((rs.take c).map (stepM s q))) (stepM s q rs[c])).idxOf (stepM s q rs[c])):=by
      show _=_
      have h2:c<(rs.map (stepM s q)).length:=by simpa using hcr
      have:=idx_at met h2
      rw[←List.map_take,List.getElem_map] at this
      rw[←this]
      simp only[HFU.out,List.getElem_map]
     have hstok:=stepM_ok HP.out.ok q hrd
     obtain⟨rd,hrde⟩:∃ rd,rd=rs[c]:=⟨_,rfl⟩
     rw[←hrde] at x0 x1 x2 x3 hrd HSUC HFC hstok
     obtain⟨m,hm⟩:∃ m,m=metL met ((rs.take c).map (stepM s q)):=⟨_,rfl⟩
     rw[←hm] at hnum HSUC HFC HSC
     have hal:Below wr.heap.size wr (wr.alloc (.cells #[.int .u64 (rd.x0:Int),.int .u64 (rd.x1:Int),.int .u64 (rd.x2:Int),.int .u64 (rd.x3:Int)] 150)):=(Below.refl _ _).alloc (Nat.le_refl _) _
     have hsrA:=hsrc.below hal
     have hst:=step_any (wr.alloc (.cells #[.int .u64 (rd.x0:Int),.int .u64 (rd.x1:Int),.int .u64 (rd.x2:Int),.int .u64 (rd.x3:Int)] 150)) sb vf s n q.w q.ends rd (htz.keep (hal.block 1 htz.lt)) HP.out.s1 hsrA HP.out.ok ⟨hqok.l0,hqok.l1,hqok.l2,hqok.l3⟩ hrd
     have hqe:stOf q.w q.ends=q:=rfl
     rw[hqe] at hst
     obtain⟨z,hz⟩:∃ z,z=stepM s q rd:=⟨_,rfl⟩
     rw[←hz] at hst HSUC HFC hstok
     simp only[W4.v,Stt.v] at hst
     have HAL:Hid (Below wr.heap.size wr (wr.alloc (.cells #[.int .u64 (rd.x0:Int),.int .u64 (rd.x1:Int),.int .u64 (rd.x2:Int),.int .u64 (rd.x3:Int)] 150))):=hal
     have HOF:Hid (∀ w4,SI w tb K w4 v' va vn m (tk+1) ((met.take tk).map (·.ends)) rows gs→Calls Tryz.prog 130 #[.pointer (some ⟨w.heap.size+1,0,none⟩),stV z.x0 z.x1 z.x2 z.x3 z.ends] w4 fun e w'=>e=.returned (.int .i64 ((full[c]'(by omega):Nat):Int))∧∃ v2,NumAt 244 5 w' (w.heap.size+1) w.heap.size v2 ((pushM m z).map Stt.v) (tk+1)∧(∀ g,v2.ownBlock=some g→v'.ownBlock=some g∨w4.heap.size≤g)∧Exc (Foot (w.heap.size+1) w.heap.size v') w4 w'):=fun w4 hs4=>by
      rw[HFC.out]
      exact ofSt_any w4 (w.heap.size+1) w.heap.size v' m (tk+1) z hs4.num hnum.1 hstok (by omega) hnum.2.1
     have hqc:=box5b hrb.q
     have hqa:=box5b (HRB.out.below hal).q
     obtain⟨fc,hfc⟩:∃ fc,fc=full[c]'(by omega):=⟨_,rfl⟩
     have HFC2:Hid (fc=full[c]'(by omega)):=hfc
     rw[←hfc] at HOF
     have HRBF:Hid (∀ w5:World,w5.heap[H2]?=wr.heap[H2]?→w5.heap[H2+1]?=wr.heap[H2+1]?→RB (w5.setCell ⟨H2+1,c,none⟩ (eN fc)) H2 (H2+1) q.w q.ends (rowP full (c+1))∧(∃ y,w5.cell? ⟨H2+1,c,none⟩=some y)∧∀ o,w5.frozen? ⟨H2+1,o,none⟩=false):=fun w5 k1 k2=>by
      have h5:=HRB.out.keep k1 k2
      refine⟨?_,?_,fun o=>by simp[World.frozen?,h5.r]⟩
      ·have:=h5.set (by omega) c fc
       rw[HFC2.out,rowP_set full c (by omega)] at this
       rw[HFC2.out]
       exact this
      ·refine⟨_,by
        simp only[World.cell?,h5.r]
        simp[rowP_len full c (by omega),show c<full.length by omega]
        rfl⟩
     have HWZ:Hid (H2+2≤wr.heap.size):=(Array.getElem?_eq_some_iff.1 HRB.out.r).1
     have HPUT:Hid (∀ w4 w5 v2,Below wr.heap.size wr w4→SI w tb K w4 v' va vn m (tk+1) ((met.take tk).map (·.ends)) rows gs→NumAt 244 5 w5 (w.heap.size+1) w.heap.size v2 ((pushM m z).map Stt.v) (tk+1)→(∀ g,v2.ownBlock=some g→v'.ownBlock=some g∨w4.heap.size≤g)→Exc (Foot (w.heap.size+1) w.heap.size v') w4 w5→(SI w tb K (w5.setCell ⟨H2+1,c,none⟩ (eN fc)) v2 va vn (pushM m z) (tk+1) ((met.take tk).map (·.ends)) rows gs∧RB (w5.setCell ⟨H2+1,c,none⟩ (eN fc)) H2 (H2+1) q.w q.ends (rowP full (c+1))∧(∀ g,v2.ownBlock=some g→g≠H2∧g≠H2+1))∧(∃ y,w5.cell? ⟨H2+1,c,none⟩=some y)∧∀ o,w5.frozen? ⟨H2+1,o,none⟩=false):=fun w4 w5 v2 hb4 hs4 hn5 hg5 hx5=>by
      have hwz:=HWZ.out
      have hsz4:=hb4.size
      have hs5:=hs4.of hn5 hg5 hx5
      have hnf:∀ b,b=H2∨b=H2+1→¬ Foot (w.heap.size+1) w.heap.size v' b:=fun b hb q=>by
       rcases q with q|q|q
       ·omega
       ·omega
       ·have:=HVQ.out b q.symm;omega
      have k1:w5.heap[H2]?=wr.heap[H2]?:=(hx5.block _ (by omega) (hnf _ (.inl rfl))).trans (hb4.block _ (by omega))
      have k2:w5.heap[H2+1]?=wr.heap[H2+1]?:=(hx5.block _ (by omega) (hnf _ (.inr rfl))).trans (hb4.block _ (by omega))
      obtain⟨r1,r2,r3⟩:=HRBF.out w5 k1 k2
      have hrow:=(HRB.out.keep k1 k2).r
      have hv2:∀ g,v2.ownBlock=some g→g≠H2∧g≠H2+1:=fun g hg=>by
       rcases hg5 g hg with q|q
       ·exact HVQ.out g q
       ·omega
      have htl:=hs5.tl
      refine⟨⟨hs5.keep (S:=fun b=>b=H2+1) (exc_set rfl) (by omega) (fun b hb=>by omega) (fun b hb q=>?_),r1,hv2⟩,r2,r3⟩
      subst q
      rcases hb with hb|hb|hb|hb|hb|hb
      ·omega
      ·omega
      ·exact(hv2 _ hb).2 rfl
      ·obtain⟨cs,hcs⟩:=own_ty hs5.ar hb
       exact ty_ne hcs hrow (by decide) rfl
      ·obtain⟨cs,hcs⟩:=own_ty hs5.nr hb
       exact ty_ne hcs hrow (by decide) rfl
      ·have:=HGS.out _ hb;omega
     clear hm hrde hz hal hsrA hstok hrd hsi hrb hrf hsrc htz hnum hqe hfc
     go_wp2_with (first|(go_at_call 130;refine(HOF.out w4 HS4.out).mono ?_;rintro e w5 ⟨rfl,v2,hn5,hg5,hx5⟩;obtain⟨p1,⟨y,p2⟩,p3⟩:=HPUT.out w4 w5 v2 HB4.out HS4.out hn5 hg5 hx5;have HP5:Hid (SI w tb K (w5.setCell ⟨H2+1,c,none⟩ (eN fc)) v2 va vn (pushM m z) (tk+1) ((met.take tk).map (·.ends)) rows gs∧RB (w5.setCell ⟨H2+1,c,none⟩ (eN fc)) H2 (H2+1) q.w q.ends (rowP full (c+1))∧(∀ g,v2.ownBlock=some g→g≠H2∧g≠H2+1)):=p1;clear hn5 hg5 hx5 p1)|(go_at_call 132;refine hst.mono ?_;rintro e w4 ⟨rfl,hb4⟩;have HB4:Hid (Below wr.heap.size wr w4):=HAL.out.trans (hb4.mono (by simp));have HS4:Hid (SI w tb K w4 v' va vn m (tk+1) ((met.take tk).map (·.ends)) rows gs):=HSC.out.below HB4.out;clear hb4))
     go_roundw
     case rel=>exact⟨c+1,v2,by omega,by go_num,by rw[HSUC.out];exact HP5.out.1,HP5.out.2.1,HP5.out.2.2⟩
     case measure=>simp[intOf]<;>omega
    ·have hcI:¬(c:Int)<K:=by omega
     have hcK:c=K:=by omega
     have hall:(rs.take c).map (stepM s q)=rs.map (stepM s q):=by rw[hcK,HK.out,List.take_length]
     have hnum:=HNUM.out c hc
     rw[hall] at HSC hnum
     have HRF:Hid (RB wr H2 (H2+1) q.w q.ends full):=by
      have:=hrb
      rw[hcK,←hfl,rowP_all] at this
      exact this
     rw[←HFU.out] at HEQ
     obtain⟨m,hm⟩:∃ m,m=metL met (rs.map (stepM s q)):=⟨_,rfl⟩
     have hpre:met <+: m:=by rw[hm];exact metL_pre _ _
     rw[←hm] at HSC HEQ hnum
     have hcnt:=countSt_any wr (w.heap.size+1) w.heap.size v' (m.map Stt.v) (tk+1) HSC.out.num
     rw[List.length_map] at hcnt
     clear hsi hrb hall hm HRB
     by_cases hlim:limit<m.length
     ·have hlimI:(limit:Int)<m.length:=by omega
      have HQ:Hid (R=none):=by show _=_;rw[←HEQ.out,if_pos hlim]
      go_wp2_with (go_at_call 133;refine hcnt.mono ?_;rintro e w9 ⟨rfl,hw9⟩;obtain rfl:=hw9.symm)
      simp only[Exit.jump]
      go_ret
      exact .inl ⟨HQ.out,rfl,HSC.out.ex⟩
     ·have hlimI:¬(limit:Int)<m.length:=by omega
      have HQ:Hid (stsM (stepM s) rs limit f m (tk+1) (rows++[full])=R):=by show _=_;rw[←HEQ.out,if_neg hlim]
      have hc4:=HSC.out.c4
      obtain⟨y0,y1,y2,y3,y4⟩:=box5b HRF.out.q
      obtain⟨iB,hiB,hzB,hz1B,hz2B⟩:=info_parts Tryz.infoB
      obtain⟨iL,hiL,hzL,hz1L,hz2L⟩:=info_parts Tryz.infoLI
      have HAR:Hid (wr.ownsRow (w.heap.size+2) 4 1 va ((met.take tk).map (·.ends)).length (((met.take tk).map (·.ends)).map eB)):=HSC.out.ar
      obtain⟨A,hA⟩:∃ A,A=(met.take tk).map (·.ends):=⟨_,rfl⟩
      have hAl:A.length≤200:=by rw[hA];simp;omega
      rw[←hA] at HAR HSC HACC
      have hgsl:gs.length≤200:=by rw[HSC.out.gl];omega
      have HAC2:Hid ((m.take (tk+1)).map (·.ends)=A++[q.ends]):=by
       show _=_
       rw[←HACC.out]
       obtain⟨r,hr⟩:=hpre
       rw[←hr,List.take_append_of_le_length (by omega)]
      clear hA
      go_wp2_with (go_at_call 133;refine hcnt.mono ?_;rintro e w9 ⟨rfl,hw9⟩;obtain rfl:=hw9.symm)
      have hal:Below wr.heap.size wr (wr.alloc (.cells #[.bool q.ends] 4)):=(Below.refl _ _).alloc (Nat.le_refl _) _
      have c4n:=cell_below hal hc4
      have c4e:=World.new_ne wr ⟨tb,4,none⟩ hc4
      have htl:=HSC.out.tl
      have hwz:H2+2≤wr.heap.size:=(Array.getElem?_eq_some_iff.1 HRF.out.r).1
      have hszw:w.heap.size+2≤wr.heap.size:=by omega
      have HADD:Hid (∀ {w4:World}{g k:Nat},w4.ownsRow (w.heap.size+2) 4 1 (.slice (some ⟨g,0,none⟩) (A.length+1) k) (A.length+1) (A.map eB++[eB q.ends])→((va.ownBlock=some g∧(wr.alloc (.cells #[.bool q.ends] 4)).drew.grownBy w4 (some g))∨(g=(wr.alloc (.cells #[.bool q.ends] 4)).heap.size∧(wr.alloc (.cells #[.bool q.ends] 4)).drew.grownBy w4 none))→(SI w tb K (w4.setCell ⟨tb,4,none⟩ (.slice (some ⟨g,0,none⟩) (A.length+1) k)) v' (.slice (some ⟨g,0,none⟩) (A.length+1) k) vn m (tk+1) (A++[q.ends]) rows gs∧RB (w4.setCell ⟨tb,4,none⟩ (.slice (some ⟨g,0,none⟩) (A.length+1) k)) H2 (H2+1) q.w q.ends full)∧w4.cell? ⟨tb,4,none⟩=some va∧w4.frozen? ⟨tb,4,none⟩=false):=fun {w4 g k} ho hc=>by
       obtain⟨q1,q2,q3⟩:=HSC.out.acc1 (wa:=(wr.alloc (.cells #[.bool q.ends] 4)).drew) hal.drew ho rfl hc
       have hb:∀ b cs T,wr.heap[b]?=some (.cells cs T (0,0))→T≠4→w.heap.size≤b→(w4.setCell ⟨tb,4,none⟩ (.slice (some ⟨g,0,none⟩) (A.length+1) k)).heap[b]?=wr.heap[b]?:=fun b cs T hbc hT hge=>by
        rw[set_blk _ _ _ _ (by omega)]
        have hbl:=(Array.getElem?_eq_some_iff.1 hbc).1
        refine(grown_blk (wa:=(wr.alloc (.cells #[.bool q.ends] 4)).drew) rfl hc (by simp;omega) (fun q=>?_)).trans (hal.block b hbl)
        obtain⟨ds,hds⟩:=own_ty HSC.out.ar q
        exact ty_ne hbc hds hT rfl
       exact⟨⟨q1,HRF.out.keep (hb _ _ _ HRF.out.q (by decide) (by omega)) (hb _ _ _ HRF.out.r (by decide) (by omega))⟩,q2,q3⟩
      go_region_law (refine step_append_str _ (by rfl) (.tmp 68) (.tmp 71) 30 (by rfl) (w.heap.size+2) 4 iB _ 1 1 Tryz.underlying30 hiB hzB hz1B hz2B (by rfl) (by decide) va A.length (A.map eB) (by rfl) (show World.ownsRow _ _ _ _ _ _ _ from World.ownsRow.alloc HAR.out _) ⟨wr.heap.size,0,none⟩ 1 1 [.bool q.ends] (by rfl) (by rfl) (World.news_of_block (w:=wr.alloc (.cells #[.bool q.ends] 4)) (heap_alloc_new wr _)) (by simp[Value.oneCell']) (by omega) (by unfold maxLen;omega) (by omega) (by simp;omega) _ (by rfl) ?_;intro g4 k4 w4 ho4 hc4' hl4;obtain⟨a1,e0,f0⟩:=HADD.out ho4 hc4';have HA:Hid (SI w tb K (w4.setCell ⟨tb,4,none⟩ (.slice (some ⟨g4,0,none⟩) (A.length+1) k4)) v' (.slice (some ⟨g4,0,none⟩) (A.length+1) k4) vn m (tk+1) (A++[q.ends]) rows gs∧RB (w4.setCell ⟨tb,4,none⟩ (.slice (some ⟨g4,0,none⟩) (A.length+1) k4)) H2 (H2+1) q.w q.ends full):=a1;clear ho4 hc4' a1)
      all_goals (
       obtain⟨w5,hw5⟩:∃ w5,w5=w4.setCell ⟨tb,4,none⟩ (.slice (some ⟨g4,0,none⟩) (A.length+1) k4):=⟨_,rfl⟩
       have hA5:=HA.out
       rw[←hw5] at hA5 ⊢
       have HS5:Hid (SI w tb K w5 v' (.slice (some ⟨g4,0,none⟩) (A.length+1) k4) vn m (tk+1) (A++[q.ends]) rows gs):=hA5.1
       have HR5:Hid (RB w5 H2 (H2+1) q.w q.ends full):=hA5.2
       have hc5:=hA5.1.c5
       have HNR:Hid (w5.ownsRow (w.heap.size+2) 40 1 vn gs.length (gs.map (rowV K))):=hA5.1.nr
       have hsz5:w.heap.size+2≤w5.heap.size:=by have:=(Array.getElem?_eq_some_iff.1 hA5.2.r).1;omega
       clear hA5 hw5 HA HADD e0 f0 c4n c4e hc4 y0 y1 y2 y3 y4 hal
       go_wp2_with (at_builtin;refine wpList_append_str _ rfl (.tmp 79) (.tmp 81) 31 rfl (w.heap.size+2) 40 iL _ 1 24 Tryz.underlying31 hiL hzL hz1L hz2L rfl (by decide) vn gs.length (gs.map (rowV K)) rfl (World.ownsRow.alloc HNR.out _) ⟨w5.heap.size,0,none⟩ 1 1 [.slice (some ⟨H2+1,0,none⟩) K K] rfl rfl (World.news_of_block (heap_alloc_new w5 _)) (by simp[Value.oneCell']) (by omega) (by unfold maxLen;omega) (by omega) (by simp;omega) _ rfl ?_;intro g6 k6 w6 ho6 hc6 hl6;obtain⟨a1,e0,f0⟩:=HS5.out.row1 (wa:=w5.alloc (.cells #[.slice (some ⟨H2+1,0,none⟩) K K] 40)) (q:=H2+1) HR5.out.r (by omega) hfl ((Below.refl _ _).alloc (Nat.le_refl _) _) ho6 rfl hc6;have HA:Hid (SI w tb K (w6.setCell ⟨tb,5,none⟩ (.slice (some ⟨g6,0,none⟩) (gs.length+1) k6)) v' (.slice (some ⟨g4,0,none⟩) (A.length+1) k4) (.slice (some ⟨g6,0,none⟩) (gs.length+1) k6) m (tk+1) (A++[q.ends]) (rows++[full]) (gs++[H2+1])):=a1;clear ho6 hc6 a1)
       go_step3
       refine⟨rfl,(HJ.out _ _).2 ⟨⟨tk+1,m,rows++[full],v',.slice (some ⟨g4,0,none⟩) (A.length+1) k4,.slice (some ⟨g6,0,none⟩) (gs.length+1) k6,gs++[H2+1],by rw[HAC2.out,←HK.out];exact HA.out,hnum.1,hnum.2.1,by omega,by simp;omega,by rw[show 202-(tk+1)=f by omega];exact HQ.out⟩,_,_,_,_,_,_,_,_,_,_,_,_,_,_,_,_,_,_,_,_,_,_,_,_,_,_,_,_,_,_,_,_,_,_,_,_,_,_,_,_,_,_,_,_,_,_,_,_,_,_,_,_,_,_,_,_,_,_,_,_,_,_,_,_,_,_,_,_,_,_,_,_,_,_,_,_,_,rfl⟩,?_⟩
       rw[takenOf_at HA.out.num,takenOf_at HTK.out]
       omega)
end Go.Proofs.YtbjabpodkaokjaaGreatDoor

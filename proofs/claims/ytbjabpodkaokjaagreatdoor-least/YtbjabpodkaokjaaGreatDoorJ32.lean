import Derived.Test.YtbjabpodkaokjaaGreatDoorJ31
set_option linter.unusedVariables false
set_option linter.unusedSimpArgs false
set_option maxHeartbeats 4000000
set_option maxRecDepth 100000
namespace Go.Proofs.YtbjabpodkaokjaaGreatDoor
open Go.RowKit
theorem leastT_any (w:World) (t:Tn) (n K:Nat) (ht:TnOk n K t) (hn:n≤200) (hK:K≤256) (va vn:Value) (hA:RowE eB w va t.acc) (hN:RowsE eI w vn (nxI t.next)) :
  Calls Tryz.prog 43 #[.agg #[.bool t.front,.bool t.back,.int .i64 0,.string (ba (t.cls.map UInt8.ofNat)),va,vn]] w fun e w'=>∃ va' vn',e=.returned (tv (tbOf (leastM t)) va' vn')∧TabIn w' (tbOf (leastM t)) va' vn'∧Below w.heap.size w w':=by
 obtain⟨bl,hbl⟩:∃ bl,bl=blM t:=⟨_,rfl⟩
 have HBL:Hid (bl=blM t):=hbl
 have hbll:bl.length=n:=by rw[hbl];exact(splitM_len _ _ _ _ (by simp[bkOf,ht.al,ht.nl])).trans ht.nl
 obtain⟨cols,hcols⟩:∃ cols,cols=colsM t bl:=⟨_,rfl⟩
 obtain⟨olds,holds⟩:∃ olds,olds=oldsM t.cls cols:=⟨_,rfl⟩
 obtain⟨cls,hcls⟩:∃ cls,cls=(cols.map (ixL (metL [] cols))).map UInt8.ofNat:=⟨_,rfl⟩
 obtain⟨R,hR⟩:∃ R,R=stsM (leadM t bl) olds 256 258 [bl.getD 0 0] 0 []:=⟨_,rfl⟩
 have HR:Hid (R=stsM (leadM t bl) olds 256 258 [bl.getD 0 0] 0 []):=hR
 have HLEAST:Hid (∀ x,R=some x→leastM t=⟨t.front,t.back,cols.map (ixL (metL [] cols)),x.1.map fun b=>t.acc.getD (bl.idxOf b) false,x.2⟩):=fun x hx=>by
  have:leastB t (blM t)=some x:=by rw[←hx,hR,holds,hcols,hbl];rfl
  unfold leastM
  rw[this,hcols,hbl]
 have HOL:Hid (olds.length≤256∧∀ x∈olds,x<K):=by
  have h1:cols.length=t.cls.length:=by rw[hcols];simp[colsM]
  refine⟨?_,by rw[holds];exact olds_lt ht h1⟩
  rw[holds]
  have h2:=metL_len [] cols
  have h3:=ht.cl
  simp only[oldsM,List.length_map]
  simp at h2;omega
 have HT:Hid (TnOk n K t):=ht
 have hn1:=ht.n1
 obtain⟨fa,hfa⟩:∃ fa:UInt8→Bool,fa=fun b=>t.acc.getD (bl.idxOf b) false:=⟨_,rfl⟩
 have HFA:Hid (fa=fun b=>t.acc.getD (bl.idxOf b) false):=hfa
 obtain⟨na,nc,hvn⟩:=hN.form
 rw[nxI_len,ht.nl] at hvn
 subst hvn
 obtain⟨w1,hw1⟩:∃ w1,w1=(w.alloc (.cells (tC t.front t.back (t.cls.map UInt8.ofNat) va (.slice na n nc)) 33)).alloc (.cells #[.bool false,.bool false,.int .i64 0,.string ⟨#[]⟩,.slice none 0 0,.slice none 0 0] 33):=⟨_,rfl⟩
 have hb1:Below w.heap.size w w1:=by rw[hw1];exact((Below.refl _ _).alloc (Nat.le_refl _) _).alloc (by simp) _
 have hs1:w1.heap.size=w.heap.size+2:=by rw[hw1];simp
 have hk1:w1.heap[w.heap.size]?=some (.cells (tC t.front t.back (t.cls.map UInt8.ofNat) va (.slice na n nc)) 33):=by rw[hw1,Below.heap_alloc _ _ _ (by simp)];exact heap_alloc_new w _
 have hk2:w1.heap[w.heap.size+1]?=some (.cells #[.bool false,.bool false,.int .i64 0,.string ⟨#[]⟩,.slice none 0 0,.slice none 0 0] 33):=by
  rw[hw1]
  have:=heap_alloc_new (w.alloc (.cells (tC t.front t.back (t.cls.map UInt8.ofNat) va (.slice na n nc)) 33)) (.cells #[.bool false,.bool false,.int .i64 0,.string ⟨#[]⟩,.slice none 0 0,.slice none 0 0] 33)
  simpa using this
 have hsp:=split_any w1 t.front t.back 0 (t.cls.map UInt8.ofNat) va (.slice na n nc) t.acc t.next (hA.below hb1) (hN.below hb1) n K ht.al ht.nl ht.r hn hK
 rw[show splitM t.next 202 (bkOf t.acc) 0=bl from hbl.symm] at hsp
 have HNN:Hid (RowsE eI w (.slice na n nc) (nxI t.next)):=hN
 have HAA:Hid (RowE eB w va t.acc):=hA
 have HBOX:Hid (∀ w2,Below w1.heap.size w1 w2→w2.heap[w.heap.size]?=some (.cells #[.bool t.front,.bool t.back,.int .i64 0,.string (ba (t.cls.map UInt8.ofNat)),va,.slice na n nc] 33)∧w.heap.size+2≤w2.heap.size):=fun w2 hb=>⟨(hb.block _ (by omega)).trans hk1,by have:=hb.size;omega⟩
 have HJOIN:Hid (∀ w2 vb ob,RowE byV w2 vb bl→Below w1.heap.size w1 w2→Calls Tryz.prog 80 #[.agg #[.bool t.front,.bool t.back,.int .i64 0,.string (ba (t.cls.map UInt8.ofNat)),va,.slice na n nc],vb] (w2.alloc ob) fun e w'=>∃ v,e=.returned (.tuple #[.string (ba cls),v])∧(∃ base,(w2.alloc ob).heap.size≤base∧w'.ownsRow base 3 1 v olds.length (olds.map eN))∧Below (w2.alloc ob).heap.size (w2.alloc ob) w'):=fun w2 vb ob hr2 hb2=>by
  have hb3:Below w.heap.size w (w2.alloc ob):=(hb1.trans (hb2.mono (by omega))).alloc (by have:=hb2.size;omega) _
  have:=joinL_any (w2.alloc ob) t.front t.back 0 va (.slice na n nc) vb t.cls t.next bl (hN.below hb3) (hr2.below ((Below.refl _ _).alloc (Nat.le_refl _) _)) K ht.cl ht.ck hK (by rw[hbll];exact ht.r) (by rw[ht.nl];exact hn) (by omega) cols hcols
  rw[←hcls,←holds] at this
  exact this
 have HPRE:Hid (∀ w2 w4 vb vo,Below w1.heap.size w1 w2→RowE byV w2 vb bl→(∃ base,(w2.alloc (.cells (tC t.front t.back [] (.slice none 0 0) (.slice none 0 0)) 33)).heap.size≤base∧w4.ownsRow base 3 1 vo olds.length (olds.map eN))→Below (w2.alloc (.cells (tC t.front t.back [] (.slice none 0 0) (.slice none 0 0)) 33)).heap.size (w2.alloc (.cells (tC t.front t.back [] (.slice none 0 0) (.slice none 0 0)) 33)) w4→LPre w t va (.slice na n nc) w2 (w4.setCell ⟨w2.heap.size,3,none⟩ (.string (ba cls))) vb vo bl olds cls∧(∃ y,w4.cell? ⟨w2.heap.size,3,none⟩=some y)∧w4.frozen? ⟨w2.heap.size,3,none⟩=false):=fun w2 w4 vb vo hb2 hr2 ⟨base,hbase,ho⟩ hb4=>by
  have hz2:=hb2.size
  have hza:(w2.alloc (.cells (tC t.front t.back [] (.slice none 0 0) (.slice none 0 0)) 33)).heap.size=w2.heap.size+1:=by simp
  rw[hza] at hb4 hbase
  have hz4:=hb4.size
  have e4:w4.heap[w2.heap.size]?=some (.cells (tC t.front t.back [] (.slice none 0 0) (.slice none 0 0)) 33):=(hb4.block _ (by omega)).trans (heap_alloc_new w2 _)
  have hbw:Below w.heap.size w w2:=hb1.trans (hb2.mono (by omega))
  refine⟨⟨hbw,?_,by omega,(hb2.block _ (by omega)).trans hk1,(hb2.block _ (by omega)).trans hk2,hr2,HAA.out.below hbw,HNN.out.below hbw,?_,base,by omega,?_⟩,?_,?_⟩
  ·exact((((Below.refl _ _).alloc (Nat.le_refl _) _).trans (hb4.mono (by omega)))).setCell (by simp) _
  ·rw[set_own e4];simp[tC]
  ·exact own_blk ho (fun b hb=>set_blk _ _ _ _ (by have:=own_ge ho hb;omega))
  ·exact⟨_,by simp only[World.cell?,e4,tC];rfl⟩
  ·simp[World.frozen?,e4]
 obtain⟨J,hJ⟩:∃ J:Act→World→Prop,∀ a' w',J a' w'↔(∃ w2 w0 vb vo tk met rows v va' vn' gs,LPre w t va (.slice na n nc) w2 w0 vb vo bl olds cls∧LS w0 w2.heap.size olds.length w' v va' vn' met tk ((met.take tk).map fa) rows gs∧(∀ q∈met,q∈bl)∧met.Nodup∧rows.length=tk∧stsM (leadM t bl) olds 256 (258-tk) met tk rows=R∧ActL a' (.agg #[.bool t.front,.bool t.back,.int .i64 0,.string (ba (t.cls.map UInt8.ofNat)),va,.slice na n nc]) (.pointer (some ⟨w.heap.size,0,none⟩)) (.pointer (some ⟨w.heap.size+1,0,none⟩)) vb (.pointer (some ⟨w2.heap.size,0,none⟩)) (.string (ba cls)) vo (.pointer (some ⟨w0.heap.size+1,0,none⟩))):=⟨_,fun _ _=>Iff.rfl⟩
 have HJ:Hid (∀ a' w',J a' w'↔(∃ w2 w0 vb vo tk met rows v va' vn' gs,LPre w t va (.slice na n nc) w2 w0 vb vo bl olds cls∧LS w0 w2.heap.size olds.length w' v va' vn' met tk ((met.take tk).map fa) rows gs∧(∀ q∈met,q∈bl)∧met.Nodup∧rows.length=tk∧stsM (leadM t bl) olds 256 (258-tk) met tk rows=R∧ActL a' (.agg #[.bool t.front,.bool t.back,.int .i64 0,.string (ba (t.cls.map UInt8.ofNat)),va,.slice na n nc]) (.pointer (some ⟨w.heap.size,0,none⟩)) (.pointer (some ⟨w.heap.size+1,0,none⟩)) vb (.pointer (some ⟨w2.heap.size,0,none⟩)) (.string (ba cls)) vo (.pointer (some ⟨w0.heap.size+1,0,none⟩)))):=hJ
 have HW1:Hid (w1=(w.alloc (.cells #[.bool t.front,.bool t.back,.int .i64 0,.string (ba (t.cls.map UInt8.ofNat)),va,.slice na n nc] 33)).alloc (.cells #[.bool false,.bool false,.int .i64 0,.string ⟨#[]⟩,.slice none 0 0,.slice none 0 0] 33)):=hw1
 have HCLS:Hid (cls=(cols.map (ixL (metL [] cols))).map UInt8.ofNat):=hcls
 clear hcls hJ hA hN hb1 hR hbl hcols holds hfa ht hk1 hk2 hw1 hs1 HAA HNN
 go_enter Tryz.func43,Tryz.ntmps43
 go_wp2
 rw[←HW1.out]
 refine Sx.wp_scope_once 0 J (fun a' w'=>258-takenOf (ptrOf a' 7) w') rfl ?_ ?_
 ·intro hp
  have HPP:Hid _:=hp
  clear hp
  obtain⟨j0,j1,j2,j3,j4,j5⟩:=box6 (HBOX.out w1 (Below.refl _ _)).1
  go_wp2_with (first|(go_at_call 80;refine(HJOIN.out w2 (.slice (some ⟨g2,o2,none⟩) n c2) (.cells (tC t.front t.back [] (.slice none 0 0) (.slice none 0 0)) 33) HR2.out HB2.out).mono ?_;rintro e w4 ⟨vo,rfl,ho4,hb4⟩;obtain⟨p1,⟨y4,p2⟩,p3⟩:=HPRE.out w2 w4 _ vo HB2.out HR2.out ho4 hb4;have HP0:Hid (LPre w t va (.slice na n nc) w2 (w4.setCell ⟨w2.heap.size,3,none⟩ (.string (ba cls))) (.slice (some ⟨g2,o2,none⟩) n c2) vo bl olds cls):=p1;clear p1 ho4 hb4)|(go_at_call 79;refine hsp.mono ?_;rintro e w2 ⟨vb,rfl,hr2,hb2⟩;obtain⟨g2,o2,c2,hvb,-⟩:=hr2.nonnil (by omega);rw[hbll] at hvb;subst hvb;have HB2:Hid (Below w1.heap.size w1 w2):=hb2;have HR2:Hid (RowE byV w2 (.slice (some ⟨g2,o2,none⟩) n c2) bl):=hr2;obtain⟨q1,q2⟩:=HBOX.out w2 hb2;obtain⟨k0,k1,k2,k3,k4,k5⟩:=box6 q1;have d0:=fun ob=>cell_below ((Below.refl _ _).alloc (Nat.le_refl _) ob:Below w2.heap.size w2 (w2.alloc ob)) k0;have d1:=fun ob=>cell_below ((Below.refl _ _).alloc (Nat.le_refl _) ob:Below w2.heap.size w2 (w2.alloc ob)) k1;have d2:=fun ob=>cell_below ((Below.refl _ _).alloc (Nat.le_refl _) ob:Below w2.heap.size w2 (w2.alloc ob)) k2;have d3:=fun ob=>cell_below ((Below.refl _ _).alloc (Nat.le_refl _) ob:Below w2.heap.size w2 (w2.alloc ob)) k3;have d4:=fun ob=>cell_below ((Below.refl _ _).alloc (Nat.le_refl _) ob:Below w2.heap.size w2 (w2.alloc ob)) k4;have d5:=fun ob=>cell_below ((Below.refl _ _).alloc (Nat.le_refl _) ob:Below w2.heap.size w2 (w2.alloc ob)) k5;clear q1 hr2 hb2 j0 j1 j2 j3 j4 j5)|(go_at_call 81;obtain⟨w0,hw0⟩:∃ w0,w0=w4.setCell ⟨w2.heap.size,3,none⟩ (.string (ba cls)):=⟨_,rfl⟩;rw[←hw0];rw[←hw0] at HP0;refine(newBy_any w0).mono ?_;rintro e w5 ⟨rfl,hn5,hb5⟩;have hl5:=HP0.out.first olds.length hn5 hb5;have HL5:Hid (LS w0 w2.heap.size olds.length w5 (.slice none 0 0) (.slice none 0 0) (.slice none 0 0) [] 0 [] [] []):=hl5;obtain⟨r1,r2,-⟩:=HP0.out.keep hl5.ex;have m2:=(box6 r1).2.2.1;obtain⟨g9,o9,c9,e9,m0⟩:=r2.at (i:=0) (by omega);simp only[Value.slice.injEq,Option.some.injEq,Addr.mk.injEq] at e9;obtain⟨⟨rfl,rfl,-⟩,-,rfl⟩:=e9;simp only[byV,Nat.add_zero] at m0;clear r1 r2 hl5 hn5 hb5 hw0 k0 k1 k2 k3 k4 k5 d0 d1 d2 d3 d4 d5 p2 p3)|(go_at_call 82;refine(ofBy_any w5 (w0.heap.size+1) w0.heap.size (.slice none 0 0) [] 0 (bl[0]'(by omega)) HL5.out.num (by simp) (by simp)).mono ?_;rintro e w6 ⟨rfl,v6,hn6,hg6,hx6⟩;have hp6:pushM [] (bl[0]'(by omega))=[bl.getD 0 0]:=(by simp[pushM,List.getD_eq_getElem?_getD,show 0<bl.length by omega]);rw[hp6] at hn6;have HL6:Hid (LS w0 w2.heap.size olds.length w6 v6 (.slice none 0 0) (.slice none 0 0) [bl.getD 0 0] 0 [] [] []):=HL5.out.of hn6 hg6 hx6;clear hn6 hg6 hx6 m0 m2))
  go_step3
  exact ‹∀ a w,Code.wp _ _ _ a w→_› _ _ (HPP.out _ _ ((HJ.out _ _).2 ⟨w2,w0,_,vo,0,[bl.getD 0 0],[],v6,.slice none 0 0,.slice none 0 0,[],HP0.out,HL6.out,by simp[List.getD_eq_getElem?_getD,show 0<bl.length by omega],by simp,rfl,HR.out.symm,actL_mk⟩))
 ·intro a' w' hj
  obtain⟨w2,w0,vb,vo,tk,met,rows,v,va',vn',gs,hpre,hls,hmb,hnd,hrl,heq,hact⟩:=(HJ.out _ _).1 hj
  refine actL_el hact ?_
  clear hj hsp hact
  intro u8 u9 u10 u11 u12 u13 u14 u15 u16 u17 u18 u19 u20 u21 u22 u23 u24 u25 u26 u27 u28 u29 u30 u31 u32 u33 u34 u35 u36 u37 u38 u39 u40 u41 u42 u43 u44 u45 u46 u47 u48 u49 u50 u51 u52 u53 u54 u55 u56 u57 u58 u59 u60 u61 u62 u63 u64 u65 u66 u67 u68 u69 u70 u71 u72 u73 u74 u75 u76 u77 u78 u79 u80 u81 u82 u83 u84 u85 u86 u87 u88 u89 u90
  have HPR:Hid (LPre w t va (.slice na n nc) w2 w0 vb vo bl olds cls):=hpre
  have HLS:Hid (LS w0 w2.heap.size olds.length w' v va' vn' met tk ((met.take tk).map fa) rows gs):=hls
  have HTK:Hid (NumAt 5 1 w' (w0.heap.size+1) w0.heap.size v (met.map byV) tk):=hls.num
  have htk:=hls.num.tl
  simp only[List.length_map] at htk
  have hm256:=nodup_u8 hnd
  obtain⟨f,hf⟩:∃ f,258-tk=f+1:=⟨257-tk,by omega⟩
  rw[hf] at heq
  simp only[stsM] at heq
  cases hq:met[tk]? with
  |none=>
   have hte:tk=met.length:=by have:=List.getElem?_eq_none_iff.1 hq;omega
   rw[hq] at heq
   simp only at heq
   have HQ:Hid (R=some (met,rows)):=heq.symm
   subst hte
   have hnx:=nextBy_none w' (w0.heap.size+1) w0.heap.size v (met.map byV) (by have:=hls.num;simpa using this)
   rw[List.take_length] at HLS
   have HFIN:Hid (∀ W,LS w0 w2.heap.size olds.length W v va' vn' met met.length (met.map fa) rows gs→W.heap[w.heap.size+1]?=some (.cells #[.bool false,.bool false,.int .i64 0,.string ⟨#[]⟩,.slice none 0 0,.slice none 0 0] 33)∧(W.cell? ⟨w2.heap.size,0,none⟩=some (.bool t.front)∧W.cell? ⟨w2.heap.size,1,none⟩=some (.bool t.back)∧W.cell? ⟨w2.heap.size,2,none⟩=some (.int .i64 0)∧W.cell? ⟨w2.heap.size,3,none⟩=some (.string (ba cls))∧W.cell? ⟨w2.heap.size,4,none⟩=some va'∧W.cell? ⟨w2.heap.size,5,none⟩=some vn')∧∀ o,W.frozen? ⟨w.heap.size+1,o,none⟩=false):=fun W hW=>by
    have hlow:=HPR.out.low hW.ex
    have hs2:=HPR.out.s2
    have e1:=(hlow.block (w.heap.size+1) (by omega)).trans HPR.out.res
    have ht0:=HPR.out.tb
    refine⟨e1,⟨?_,?_,?_,?_,hW.c4,hW.c5⟩,fun o=>by simp[World.frozen?,e1]⟩
    ·rw[hW.cs 0 (by omega) (by omega)];simp[World.cell?,ht0,tC]
    ·rw[hW.cs 1 (by omega) (by omega)];simp[World.cell?,ht0,tC]
    ·rw[hW.cs 2 (by omega) (by omega)];simp[World.cell?,ht0,tC]
    ·rw[hW.cs 3 (by omega) (by omega)];simp[World.cell?,ht0,tC]
   obtain⟨aa,am,ac,hva⟩:∃ a m c,va'=.slice a m c:=by obtain⟨a,c,h⟩:=own_form hls.ar;exact⟨a,_,c,h⟩
   obtain⟨na',nm',nc',hvn⟩:∃ a m c,vn'=.slice a m c:=by obtain⟨a,c,h⟩:=own_form hls.nr;exact⟨a,_,c,h⟩
   clear heq hls hpre hq hrl
   subst hva hvn
   clear HJ HPRE HJOIN HBOX hm256 hnd hmb
   go_wp2_with (go_at_call 83;refine hnx.mono ?_;rintro e w3 ⟨rfl,hb3⟩;have HL3:Hid (LS w0 w2.heap.size olds.length w3 v (.slice aa am ac) (.slice na' nm' nc') met met.length (met.map fa) rows gs):=HLS.out.below hb3;obtain⟨y1,⟨k0,k1,k2,k3,k4,k5⟩,y3⟩:=HFIN.out w3 HL3.out;clear HFIN HLS HTK;obtain⟨j0,j1,j2,j3,j4,j5⟩:=box6 y1;have Y1:Hid (w3.heap[w.heap.size+1]?=some (.cells #[.bool false,.bool false,.int .i64 0,.string ⟨#[]⟩,.slice none 0 0,.slice none 0 0] 33)):=y1;clear y1 hb3)
   simp only[Exit.jump]
   obtain⟨Wf,hWf⟩:∃ Wf,Wf=(((((w3.setCell ⟨w.heap.size+1,0,none⟩ (.bool t.front)).setCell ⟨w.heap.size+1,1,none⟩ (.bool t.back)).setCell ⟨w.heap.size+1,2,none⟩ (.int .i64 0)).setCell ⟨w.heap.size+1,3,none⟩ (.string (ba cls))).setCell ⟨w.heap.size+1,4,none⟩ (.slice aa am ac)).setCell ⟨w.heap.size+1,5,none⟩ (.slice na' nm' nc'):=⟨_,rfl⟩
   have hcf:Wf.heap[w.heap.size+1]?=some (.cells #[.bool t.front,.bool t.back,.int .i64 0,.string (ba cls),.slice aa am ac,.slice na' nm' nc'] 33):=by
    rw[hWf,set_own (set_own (set_own (set_own (set_own (set_own Y1.out)))))]
    simp
   have hblk:∀ b,w0.heap.size≤b→Wf.heap[b]?=w3.heap[b]?:=fun b hb=>by
    have h1:=HPR.out.lt
    have h2:=HPR.out.s2
    rw[hWf]
    iterate 6 rw[set_blk _ _ _ _ (by omega)]
   have hbf:Below w.heap.size w Wf:=by
    have h2:=HPR.out.s2
    have h3:=(HPR.out.bw).trans ((HPR.out.low HL3.out.ex).mono (by omega))
    rw[hWf]
    exact(((((h3.setCell (by simp) _).setCell (by simp) _).setCell (by simp) _).setCell (by simp) _).setCell (by simp) _).setCell (by simp) _
   have htab:=HL3.out.tab hblk
   have HTB:Hid (tbOf (leastM t)=⟨t.front,t.back,0,cls,met.map fa,nxI rows⟩):=by
    show _=_
    rw[HLEAST.out _ HQ.out,HCLS.out,HFA.out];rfl
   rw[←hWf]
   obtain⟨q0,q1,q2,q3,q4,q5⟩:=box6 hcf
   clear k0 k1 k2 k3 k4 k5 j0 j1 j2 j3 j4 j5 y3 hWf
   refine bodyPost_ret (v:=.agg #[.bool t.front,.bool t.back,.int .i64 0,.string (ba cls),.slice aa am ac,.slice na' nm' nc']) (by simp[results,Tryz.results43,go_sem,q0,q1,q2,q3,q4,q5]) rfl ⟨.slice aa am ac,.slice na' nm' nc',?_,?_,hbf⟩
   ·rw[HTB.out]
   ·rw[HTB.out];exact⟨htab.1,htab.2⟩
  |some q=>
   have htl:=(List.getElem?_eq_some_iff.1 hq).1
   rw[hq] at heq
   simp only at heq
   have hqv:(met.map byV)[tk]?=some (.int .u8 ((q.toNat:Nat):Int)):=by rw[List.getElem?_map,hq];rfl
   have hqb:q∈bl:=hmb q (List.mem_of_getElem? hq)
   have hnx:=nextBy_some w' (w0.heap.size+1) w0.heap.size v (met.map byV) tk q.toNat hls.num hqv (by simp;omega)
   rw[if_neg (by have:=nodup_u8 (metL_nodup hnd (olds.map (leadM t bl q)));omega)] at heq
   have HEQ:Hid (stsM (leadM t bl) olds 256 f (metL met (olds.map (leadM t bl q))) (tk+1) (rows++[(olds.map (leadM t bl q)).map (metL met (olds.map (leadM t bl q))).idxOf])=R):=heq
   obtain⟨A,hA⟩:∃ A,A=(met.take tk).map fa:=⟨_,rfl⟩
   have hAl:A.length≤256:=by rw[hA];simp;omega
   have HACC:Hid ((met.take (tk+1)).map fa=A++[fa q]):=by
    show _=_
    obtain⟨h1,h2⟩:=List.getElem?_eq_some_iff.1 hq
    rw[List.take_succ_eq_append_getElem h1,List.map_append,h2,hA];rfl
   rw[←hA] at hls HLS
   have hmlt:∀ g,g∈gs→g<w'.heap.size:=fun g hg=>by
    obtain⟨j,hj,rfl⟩:=List.getElem_of_mem hg
    exact(Array.getElem?_eq_some_iff.1 (hls.rw j hj (by rw[←hls.gl];exact hj)).1).1
   obtain⟨M,hM⟩:∃ M,M=olds.length:=⟨_,rfl⟩
   have hM256:M≤256:=by rw[hM];exact HOL.out.1
   obtain⟨iI,hiI,hzI,hz1I,hz2I⟩:=info_parts Tryz.infoI
   have hmk:=fun w0=>make_eq Tryz.underlying40 hiI hzI hz1I hz2I M (by omega) (by unfold maxLen;omega) w0
   obtain⟨oa,oc,hvo⟩:∃ a c,vo=.slice a M c:=by obtain⟨base,_,ho⟩:=hpre.ol;obtain⟨a,c,h⟩:=own_form ho;exact⟨a,c,by rw[h,hM]⟩
   obtain⟨bg,bo,bc,hvb⟩:∃ g o c,vb=.slice (some ⟨g,o,none⟩) n c:=by obtain⟨g,o,c,h,_⟩:=hpre.row.nonnil (by omega);exact⟨g,o,c,by rw[h,hbll]⟩
   obtain⟨i0,hi0⟩:∃ i0,i0=bl.idxOf q:=⟨_,rfl⟩
   have hi0n:i0<n:=by rw[hi0,←hbll];exact List.idxOf_lt_length_of_mem hqb
   have HIX:Hid (∀ W,Exc (fun b=>b=w2.heap.size) w0 W→Calls Tryz.prog 84 #[vb,.int .u8 (q.toNat:Int)] W fun e w''=>e=.returned (.int .i64 (i0:Int))∧w''=W):=fun W hx=>by
    rw[hi0]
    exact indexBy_any W vb bl q (HPR.out.keep hx).2.1 hqb
   have HLEAD:Hid (∀ old,leadM t bl q old=bl.getD ((t.next.getD i0 []).getD old 0) 0):=fun old=>by rw[hi0];rfl
   have HFAQ:Hid (∃ h:i0<t.acc.length,fa q=t.acc[i0]):=by
    have h1:i0<t.acc.length:=by rw[HT.out.al];exact hi0n
    refine⟨h1,?_⟩
    rw[HFA.out]
    show t.acc.getD (bl.idxOf q) false=_
    rw[←hi0,List.getD_eq_getElem?_getD,List.getElem?_eq_getElem h1];rfl
   subst hvo hvb
   have HM:Hid (M=olds.length):=hM
   rw[←hM] at HLS
   have HBX:Hid (∀ W,Exc (fun b=>b=w2.heap.size) w0 W→W.cell? ⟨w.heap.size,5,none⟩=some (.slice na n nc)∧W.cell? ⟨w.heap.size,4,none⟩=some va):=fun W hx=>by
    have:=box6 (HPR.out.keep hx).1
    exact⟨this.2.2.2.2.2,this.2.2.2.2.1⟩
   clear heq hls hq hqv hM hA hi0 hpre
   go_wp2_with (first|(go_at_call 83;refine hnx.mono ?_;rintro e w3 ⟨rfl,hn3,hx3⟩;have hi3:LS w0 w2.heap.size M w3 v va' vn' met (tk+1) A rows gs:=HLS.out.of hn3 (fun g hg=>.inl hg) hx3;have HI3:Hid (LS w0 w2.heap.size M w3 v va' vn' met (tk+1) A rows gs):=hi3;have HSZ3:Hid (w'.heap.size≤w3.heap.size):=hx3.size;clear hn3 hx3 hi3)|(go_at_call 84;refine(HIX.out w3 HI3.out.ex).mono ?_;rintro e w9 ⟨rfl,hw9⟩;obtain rfl:=hw9.symm))
   obtain⟨w4,hw4⟩:∃ w4,w4=w3.alloc (.cells (mkA M (.int .i64 0)) 3):=⟨_,rfl⟩
   rw[←hw4]
   have hb4:Below w3.heap.size w3 w4:=by rw[hw4];exact(Below.refl _ _).alloc (Nat.le_refl _) _
   have hrb4:w4.heap[w3.heap.size]?=some (.cells ((List.replicate M 0).map eN).toArray 3 (0,0)):=by
    have e0:((List.replicate M 0).map eN).toArray=mkA M (.int .i64 0):=by rw[mkA_rep' _ _ rfl,List.map_replicate];rfl
    rw[e0,hw4]
    exact heap_alloc_new w3 _
   have HI4:Hid (LS w0 w2.heap.size M w4 v va' vn' met (tk+1) A rows gs):=HI3.out.below hb4
   obtain⟨full,hfull⟩:∃ full,full=(olds.map (leadM t bl q)).map (metL met (olds.map (leadM t bl q))).idxOf:=⟨_,rfl⟩
   have hfl:full.length=M:=by rw[hfull];simp;exact HM.out.symm
   have HFU:Hid (full=(olds.map (leadM t bl q)).map (metL met (olds.map (leadM t bl q))).idxOf):=hfull
   obtain⟨H2,hH2⟩:∃ H2,H2=w3.heap.size:=⟨_,rfl⟩
   have HRB4:Hid (w4.heap[H2]?=some (.cells ((rowP full 0).map eN).toArray 3 (0,0))):=by show _=_;rw[hH2,rowP_zero,hfl];exact hrb4
   have HGS:Hid (∀ g∈gs,g<H2):=fun g hg=>by have:=hmlt g hg;have:=HSZ3.out;omega
   have hH2w:w0.heap.size+2≤H2:=by have:=HI3.out.num.lt (.inl rfl);omega
   rw[←hH2]
   have HVO:Hid (∀ g,v.ownBlock=some g→g≠H2):=fun g hg=>by have:=own_lt HI3.out.num.own hg;omega
   clear hw4 hb4 hrb4 hfull hH2 hnx hmlt hmk HI3 hw9
   have HNUM:Hid (∀ c,(metL met ((olds.take c).map (leadM t bl q))).Nodup∧(metL met ((olds.take c).map (leadM t bl q))).length≤256):=fun c=>⟨metL_nodup hnd _,nodup_u8 (metL_nodup hnd _)⟩
   go_loopw [53] (fun i wr=>∃(c:Nat) (v':Value),c≤M∧i=.int .i64 c∧LS w0 w2.heap.size M wr v' va' vn' (metL met ((olds.take c).map (leadM t bl q))) (tk+1) A rows gs∧wr.heap[H2]?=some (.cells ((rowP full c).map eN).toArray 3 (0,0))∧(∀ g,v'.ownBlock=some g→g≠H2)) (fun i _=>M-(intOf i).toNat)
   case atStart=>exact⟨0,v,by omega,rfl,HI4.out,HRB4.out,HVO.out⟩
   case round=>
    obtain⟨c,v',hc,rfl,hsi,hrb,hvo⟩:=hrel
    have HVQ:Hid (∀ g,v'.ownBlock=some g→g≠H2):=hvo
    clear hvo
    have HSC:Hid (LS w0 w2.heap.size M wr v' va' vn' (metL met ((olds.take c).map (leadM t bl q))) (tk+1) A rows gs):=hsi
    have HRB:Hid (wr.heap[H2]?=some (.cells ((rowP full c).map eN).toArray 3 (0,0))):=hrb
    by_cases hlt:c<M
    ·have hltI:(c:Int)<M:=by omega
     have hcr:c<olds.length:=by have:=HM.out;omega
     obtain⟨og,oo,oc',e1,hoc⟩:=(HPR.out.keep hsi.ex).2.2.2.2.at (i:=c) hcr
     simp only[Value.slice.injEq] at e1
     obtain⟨rfl,-,rfl⟩:=e1
     have holdK:olds[c]<K:=HOL.out.2 _ (List.getElem_mem _)
     obtain⟨b1,o1,b2,o2,c2,g3,o3,c3,x,hna,l1,l2,hxn,hvb3,l3,hx,hxm⟩:=HPR.out.loads HT.out hbll hsi.ex hi0n holdK
     simp only[Value.slice.injEq,Option.some.injEq,Addr.mk.injEq,true_and,and_true] at hvb3
     obtain⟨⟨rfl,rfl⟩,rfl⟩:=hvb3
     have hl5:=(HBX.out wr hsi.ex).1
     rw[hna] at hl5
     have hlead:leadM t bl q olds[c]=bl.getD x 0:=by rw[HLEAD.out,hx]
     have HSUC:Hid (metL met ((olds.take (c+1)).map (leadM t bl q))=pushM (metL met ((olds.take c).map (leadM t bl q))) (bl.getD x 0)):=by
      show _=_
      rw[List.take_succ_eq_append_getElem hcr,List.map_append,metL_append,←hlead];rfl
     have HFC:Hid (full[c]'(by omega)=(pushM (metL met ((olds.take c).map (leadM t bl q))) (bl.getD x 0)).idxOf (bl.getD x 0)):=by
      show _=_
      have h2:c<(olds.map (leadM t bl q)).length:=by simpa using hcr
      have:=idx_at met h2
      rw[←List.map_take,List.getElem_map,hlead] at this
      rw[←this]
      simp only[HFU.out,List.getElem_map,hlead]
     obtain⟨m,hm⟩:∃ m,m=metL met ((olds.take c).map (leadM t bl q)):=⟨_,rfl⟩
     have hnum:=HNUM.out c
     rw[←hm] at hnum HSUC HFC HSC
     obtain⟨z,hz⟩:∃ z,z=bl.getD x 0:=⟨_,rfl⟩
     rw[←hz] at l3 HSUC HFC
     simp only[byV] at l3
     obtain⟨fc,hfc⟩:∃ fc,fc=full[c]'(by omega):=⟨_,rfl⟩
     have HFC2:Hid (fc=full[c]'(by omega)):=hfc
     have hof:=ofBy_any wr (w0.heap.size+1) w0.heap.size v' m (tk+1) z HSC.out.num (by omega) hnum.1
     have hidx:(@List.idxOf _ instBEqOfDecidableEq z (pushM m z):Nat)=fc:=by
      rw[hfc,HFC.out]
     rw[hidx] at hof
     simp only[byV] at hof
     have HWZ:Hid (H2<wr.heap.size):=(Array.getElem?_eq_some_iff.1 HRB.out).1
     have HPUT:Hid (∀ w5 v2,NumAt 5 1 w5 (w0.heap.size+1) w0.heap.size v2 ((pushM m z).map byV) (tk+1)→(∀ g,v2.ownBlock=some g→v'.ownBlock=some g∨wr.heap.size≤g)→Exc (Foot (w0.heap.size+1) w0.heap.size v') wr w5→(LS w0 w2.heap.size M (w5.setCell ⟨H2,c,none⟩ (eN fc)) v2 va' vn' (pushM m z) (tk+1) A rows gs∧(w5.setCell ⟨H2,c,none⟩ (eN fc)).heap[H2]?=some (.cells ((rowP full (c+1)).map eN).toArray 3 (0,0))∧(∀ g,v2.ownBlock=some g→g≠H2))∧(∃ y,w5.cell? ⟨H2,c,none⟩=some y)∧∀ o,w5.frozen? ⟨H2,o,none⟩=false):=fun w5 v2 hn5 hg5 hx5=>by
      have hwz:=HWZ.out
      have hs5:=HSC.out.of hn5 hg5 hx5
      have hnf:¬ Foot (w0.heap.size+1) w0.heap.size v' H2:=fun q=>by
       rcases q with q|q|q
       ·omega
       ·omega
       ·exact HVQ.out _ q.symm rfl
      have k1:w5.heap[H2]?=some (.cells ((rowP full c).map eN).toArray 3 (0,0)):=(hx5.block _ (by omega) hnf).trans HRB.out
      have hv2:∀ g,v2.ownBlock=some g→g≠H2:=fun g hg=>by
       rcases hg5 g hg with q|q
       ·exact HVQ.out g q
       ·omega
      have htl:=hs5.tl
      refine⟨⟨hs5.keep (S:=fun b=>b=H2) (exc_set rfl) (by omega) (fun b hb=>by omega) (fun b hb q=>?_),?_,hv2⟩,⟨_,by
       simp only[World.cell?,k1]
       simp[rowP_len full c (by omega),show c<full.length by omega]
       rfl⟩,fun o=>by simp[World.frozen?,k1]⟩
      ·subst q
       rcases hb with hb|hb|hb|hb|hb|hb
       ·omega
       ·omega
       ·exact hv2 _ hb rfl
       ·obtain⟨cs,hcs⟩:=own_ty hs5.ar hb
        exact ty_ne hcs k1 (by decide) rfl
       ·obtain⟨cs,hcs⟩:=own_ty hs5.nr hb
        exact ty_ne hcs k1 (by decide) rfl
       ·have:=HGS.out _ hb;omega
      ·rw[set_own k1,←rowP_set full c (by omega),←HFC2.out]
       simp[List.map_set]
     have hi0I:(i0:Int)<n:=by omega
     have hoI:(olds[c]:Int)<K:=by omega
     have hxI:(x:Int)<n:=by omega
     clear hm hz hfc hidx hnum hsi hrb hlead hx hxm hna
     go_wp2_with (go_at_call 82;refine hof.mono ?_;rintro e w5 ⟨rfl,v2,hn5,hg5,hx5⟩;obtain⟨p1,⟨y,p2⟩,p3⟩:=HPUT.out w5 v2 hn5 hg5 hx5;have HP5:Hid (LS w0 w2.heap.size M (w5.setCell ⟨H2,c,none⟩ (eN fc)) v2 va' vn' (pushM m z) (tk+1) A rows gs∧(w5.setCell ⟨H2,c,none⟩ (eN fc)).heap[H2]?=some (.cells ((rowP full (c+1)).map eN).toArray 3 (0,0))∧(∀ g,v2.ownBlock=some g→g≠H2)):=p1;clear hn5 hg5 hx5 p1)
     go_roundw
     case rel=>exact⟨c+1,v2,by omega,by go_num,by rw[HSUC.out];exact HP5.out.1,HP5.out.2.1,HP5.out.2.2⟩
     case measure=>simp[intOf]<;>omega
    ·have hcI:¬(c:Int)<M:=by omega
     have hcM:c=M:=by omega
     have hall:(olds.take c).map (leadM t bl q)=olds.map (leadM t bl q):=by rw[hcM,HM.out,List.take_length]
     have hnum:=HNUM.out c
     rw[hall] at HSC hnum
     have HRF:Hid (wr.heap[H2]?=some (.cells (full.map eN).toArray 3 (0,0))):=by
      have:=hrb
      rw[hcM,←hfl,rowP_all] at this
      exact this
     rw[←HFU.out] at HEQ
     obtain⟨m,hm⟩:∃ m,m=metL met (olds.map (leadM t bl q)):=⟨_,rfl⟩
     have hpre:met <+: m:=by rw[hm];exact metL_pre _ _
     have hmbl:∀ y∈m,y∈bl:=fun y hy=>by
      rw[hm] at hy
      rcases mem_metL.1 hy with hy|hy
      ·exact hmb y hy
      ·obtain⟨r,hr,rfl⟩:=List.mem_map.1 hy
       obtain⟨_,_,_,_,_,_,_,_,x,-,-,-,-,-,-,hx,hxm⟩:=HPR.out.loads HT.out hbll hsi.ex hi0n (HOL.out.2 r hr)
       rw[HLEAD.out,←hx];exact hxm
     have HMB:Hid (∀ y∈m,y∈bl):=hmbl
     rw[←hm] at HSC HEQ hnum
     have hc4:=HSC.out.c4
     obtain⟨iB,hiB,hzB,hz1B,hz2B⟩:=info_parts Tryz.infoB
     obtain⟨iL,hiL,hzL,hz1L,hz2L⟩:=info_parts Tryz.infoLI
     have HAR:Hid (wr.ownsRow (w0.heap.size+2) 4 1 va' A.length (A.map eB)):=HSC.out.ar
     have hgsl:gs.length≤256:=by rw[HSC.out.gl];omega
     have HAC2:Hid ((m.take (tk+1)).map fa=A++[fa q]):=by
      show _=_
      rw[←HACC.out]
      obtain⟨r,hr⟩:=hpre
      rw[←hr,List.take_append_of_le_length (by omega)]
     have hacc4:=(HBX.out wr hsi.ex).2
     obtain⟨hai,hfaq⟩:=HFAQ.out
     obtain⟨ag,ao,ac,hva,hac⟩:=(HPR.out.keep hsi.ex).2.2.1.at hai
     rw[←hfaq] at hac
     rw[hva,HT.out.al] at hacc4
     have hi0I:(i0:Int)<n:=by omega
     have hal:Below wr.heap.size wr (wr.alloc (.cells #[.bool (fa q)] 4)):=(Below.refl _ _).alloc (Nat.le_refl _) _
     have c4n:=cell_below hal hc4
     have c4e:=World.new_ne wr ⟨w2.heap.size,4,none⟩ hc4
     have htlt:=HSC.out.tl
     have hwz:H2<wr.heap.size:=(Array.getElem?_eq_some_iff.1 HRF.out).1
     have hszw:w0.heap.size+2≤wr.heap.size:=by omega
     have HADD:Hid (∀ {w4:World}{g k:Nat},w4.ownsRow (w0.heap.size+2) 4 1 (.slice (some ⟨g,0,none⟩) (A.length+1) k) (A.length+1) (A.map eB++[eB (fa q)])→((va'.ownBlock=some g∧(wr.alloc (.cells #[.bool (fa q)] 4)).drew.grownBy w4 (some g))∨(g=(wr.alloc (.cells #[.bool (fa q)] 4)).heap.size∧(wr.alloc (.cells #[.bool (fa q)] 4)).drew.grownBy w4 none))→(LS w0 w2.heap.size M (w4.setCell ⟨w2.heap.size,4,none⟩ (.slice (some ⟨g,0,none⟩) (A.length+1) k)) v' (.slice (some ⟨g,0,none⟩) (A.length+1) k) vn' m (tk+1) (A++[fa q]) rows gs∧(w4.setCell ⟨w2.heap.size,4,none⟩ (.slice (some ⟨g,0,none⟩) (A.length+1) k)).heap[H2]?=some (.cells (full.map eN).toArray 3 (0,0)))∧w4.cell? ⟨w2.heap.size,4,none⟩=some va'∧w4.frozen? ⟨w2.heap.size,4,none⟩=false):=fun {w4 g k} ho hc=>by
      obtain⟨q1,q2,q3⟩:=HSC.out.acc1 (wa:=(wr.alloc (.cells #[.bool (fa q)] 4)).drew) hal.drew ho rfl hc
      have htl9:=HSC.out.tl
      refine⟨⟨q1,?_⟩,q2,q3⟩
      rw[set_blk _ _ _ _ (by omega)]
      refine(grown_blk (wa:=(wr.alloc (.cells #[.bool (fa q)] 4)).drew) rfl hc (by simp;omega) (fun q=>?_)).trans ((hal.block H2 hwz).trans HRF.out)
      obtain⟨ds,hds⟩:=own_ty HSC.out.ar q
      exact ty_ne HRF.out hds (by decide) rfl
     simp only[eB] at hac
     clear hsi hrb hall hm HRB hpre hmbl hva hfaq hai HNUM HFAQ HIX HLEAD HBX
     go_wp2
     go_region_law (refine step_append_str _ (by rfl) (.tmp 76) (.tmp 82) 30 (by rfl) (w0.heap.size+2) 4 iB _ 1 1 Tryz.underlying30 hiB hzB hz1B hz2B (by rfl) (by decide) va' A.length (A.map eB) (by rfl) (show World.ownsRow _ _ _ _ _ _ _ from World.ownsRow.alloc HAR.out _) ⟨wr.heap.size,0,none⟩ 1 1 [.bool (fa q)] (by rfl) (by rfl) (World.news_of_block (w:=wr.alloc (.cells #[.bool (fa q)] 4)) (heap_alloc_new wr _)) (by simp[Value.oneCell']) (by omega) (by unfold maxLen;omega) (by omega) (by simp;omega) _ (by rfl) ?_;intro g4 k4 w4 ho4 hc4' hl4;obtain⟨a1,e0,f0⟩:=HADD.out ho4 hc4';have HA:Hid (LS w0 w2.heap.size M (w4.setCell ⟨w2.heap.size,4,none⟩ (.slice (some ⟨g4,0,none⟩) (A.length+1) k4)) v' (.slice (some ⟨g4,0,none⟩) (A.length+1) k4) vn' m (tk+1) (A++[fa q]) rows gs∧(w4.setCell ⟨w2.heap.size,4,none⟩ (.slice (some ⟨g4,0,none⟩) (A.length+1) k4)).heap[H2]?=some (.cells (full.map eN).toArray 3 (0,0))):=a1;clear ho4 hc4' a1)
     all_goals (
      obtain⟨w5,hw5⟩:∃ w5,w5=w4.setCell ⟨w2.heap.size,4,none⟩ (.slice (some ⟨g4,0,none⟩) (A.length+1) k4):=⟨_,rfl⟩
      have hA5:=HA.out
      rw[←hw5] at hA5 ⊢
      have HS5:Hid (LS w0 w2.heap.size M w5 v' (.slice (some ⟨g4,0,none⟩) (A.length+1) k4) vn' m (tk+1) (A++[fa q]) rows gs):=hA5.1
      have HR5:Hid (w5.heap[H2]?=some (.cells (full.map eN).toArray 3 (0,0))):=hA5.2
      have hc5:=hA5.1.c5
      have HNR:Hid (w5.ownsRow (w0.heap.size+2) 40 1 vn' gs.length (gs.map (rowV M))):=hA5.1.nr
      have hsz5:w0.heap.size+2≤w5.heap.size:=by have:=(Array.getElem?_eq_some_iff.1 hA5.2).1;omega
      clear hA5 hw5 HA HADD e0 f0 c4n c4e hc4 hal hac hacc4
      go_wp2_with (at_builtin;refine wpList_append_str _ rfl (.tmp 86) (.tmp 88) 31 rfl (w0.heap.size+2) 40 iL _ 1 24 Tryz.underlying31 hiL hzL hz1L hz2L rfl (by decide) vn' gs.length (gs.map (rowV M)) rfl (World.ownsRow.alloc HNR.out _) ⟨w5.heap.size,0,none⟩ 1 1 [.slice (some ⟨H2,0,none⟩) M M] rfl rfl (World.news_of_block (heap_alloc_new w5 _)) (by simp[Value.oneCell']) (by omega) (by unfold maxLen;omega) (by omega) (by simp;omega) _ rfl ?_;intro g6 k6 w6 ho6 hc6 hl6;obtain⟨a1,e0,f0⟩:=HS5.out.row1 (wa:=w5.alloc (.cells #[.slice (some ⟨H2,0,none⟩) M M] 40)) (q:=H2) HR5.out (by omega) hfl ((Below.refl _ _).alloc (Nat.le_refl _) _) ho6 rfl hc6;have HA:Hid (LS w0 w2.heap.size M (w6.setCell ⟨w2.heap.size,5,none⟩ (.slice (some ⟨g6,0,none⟩) (gs.length+1) k6)) v' (.slice (some ⟨g4,0,none⟩) (A.length+1) k4) (.slice (some ⟨g6,0,none⟩) (gs.length+1) k6) m (tk+1) (A++[fa q]) (rows++[full]) (gs++[H2])):=a1;clear ho6 hc6 a1)
      go_step3
      refine⟨rfl,(HJ.out _ _).2 ⟨w2,w0,_,_,tk+1,m,rows++[full],v',.slice (some ⟨g4,0,none⟩) (A.length+1) k4,.slice (some ⟨g6,0,none⟩) (gs.length+1) k6,gs++[H2],HPR.out,by rw[HAC2.out,←HM.out];exact HA.out,HMB.out,hnum.1,by simp;omega,by rw[show 258-(tk+1)=f by omega];exact HEQ.out,actL_mk⟩,?_⟩
      show 258-takenOf (w0.heap.size+1) _<258-takenOf (w0.heap.size+1) w'
      rw[takenOf_at HA.out.num,takenOf_at HTK.out]
      omega)
def P9 (w:World) (q:Nat) (p:Pc):World:=((((((((w.setCell ⟨q,2,none⟩ (.int .u64 (p.first.x0:Int))).setCell ⟨q,3,none⟩ (.int .u64 (p.first.x1:Int))).setCell ⟨q,4,none⟩ (.int .u64 (p.first.x2:Int))).setCell ⟨q,5,none⟩ (.int .u64 (p.first.x3:Int))).setCell ⟨q,6,none⟩ (.int .u64 (p.last.x0:Int))).setCell ⟨q,7,none⟩ (.int .u64 (p.last.x1:Int))).setCell ⟨q,8,none⟩ (.int .u64 (p.last.x2:Int))).setCell ⟨q,9,none⟩ (.int .u64 (p.last.x3:Int))).setCell ⟨q,10,none⟩ (.bool p.empty)
theorem set_two {w:World}{q o o':Nat}{v:Value} (h:o≠o'):(w.setCell ⟨q,o,none⟩ v).cell? ⟨q,o',none⟩=w.cell? ⟨q,o',none⟩:=by simp[go_sem,h,Ne.symm h]
theorem set_one {w:World}{q o:Nat}{v:Value} (h:∃ y,w.cell? ⟨q,o,none⟩=some y):(w.setCell ⟨q,o,none⟩ v).cell? ⟨q,o,none⟩=some v:=by
 obtain⟨y,hy⟩:=h
 exact World.cell?_setCell_same' _ _ _ (by rw[hy];rfl)
theorem P9_blk (w:World) (q:Nat) (p:Pc) {b:Nat} (h:b≠q):(P9 w q p).heap[b]?=w.heap[b]?:=by
 unfold P9
 iterate 9 rw[set_blk _ _ _ _ h]
theorem P9_off (w:World) (q:Nat) (p:Pc) {o:Nat} (h:o<2∨10<o):(P9 w q p).cell? ⟨q,o,none⟩=w.cell? ⟨q,o,none⟩:=by
 unfold P9
 iterate 9 rw[set_two (by omega)]
theorem set_fz (w:World) (p a:Addr) (v:Value):(w.setCell p v).frozen? a=w.frozen? a:=by simp[go_sem]
theorem P9_fz (w:World) (q:Nat) (p:Pc) (a:Addr):(P9 w q p).frozen? a=w.frozen? a:=by
 unfold P9
 iterate 9 rw[set_fz]
theorem exc_more {S:Nat→Prop}{a w:World} (h:Exc S a w) {q o:Nat} (hs:S q) (v:Value):Exc S a (w.setCell ⟨q,o,none⟩ v):=
 ⟨h.os,h.tape,h.output,by rw[size_set'];exact h.size,fun b hb hn=>(set_blk _ _ _ _ (by rintro rfl;exact hn hs)).trans (h.block b hb hn)⟩
theorem P9_exc (w:World) (q:Nat) (p:Pc):Exc (fun b=>b=q) w (P9 w q p):=by
 unfold P9
 iterate 9 refine exc_more (S:=fun b=>b=q) ?_ (q:=q) rfl _
 exact Exc.refl _ _
theorem P9_at {w:World}{q:Nat} (p:Pc) (h:∀ o,2≤o→o≤10→∃ y,w.cell? ⟨q,o,none⟩=some y) :
  (P9 w q p).cell? ⟨q,2,none⟩=some (.int .u64 (p.first.x0:Int))∧(P9 w q p).cell? ⟨q,3,none⟩=some (.int .u64 (p.first.x1:Int))∧(P9 w q p).cell? ⟨q,4,none⟩=some (.int .u64 (p.first.x2:Int))∧(P9 w q p).cell? ⟨q,5,none⟩=some (.int .u64 (p.first.x3:Int))∧(P9 w q p).cell? ⟨q,6,none⟩=some (.int .u64 (p.last.x0:Int))∧(P9 w q p).cell? ⟨q,7,none⟩=some (.int .u64 (p.last.x1:Int))∧(P9 w q p).cell? ⟨q,8,none⟩=some (.int .u64 (p.last.x2:Int))∧(P9 w q p).cell? ⟨q,9,none⟩=some (.int .u64 (p.last.x3:Int))∧(P9 w q p).cell? ⟨q,10,none⟩=some (.bool p.empty):=by
 unfold P9
 have k:∀ {W:World}{o o':Nat}{v:Value},(∃ y,W.cell? ⟨q,o',none⟩=some y)→∃ y,(W.setCell ⟨q,o,none⟩ v).cell? ⟨q,o',none⟩=some y:=fun {W o o' v} hy=>by
  by_cases e:o=o'
  ·subst e;exact⟨v,set_one hy⟩
  ·rw[set_two e];exact hy
 refine⟨?_,?_,?_,?_,?_,?_,?_,?_,?_⟩
 ·iterate 8 rw[set_two (by omega)]
  exact set_one (h _ (by omega) (by omega))
 ·iterate 7 rw[set_two (by omega)]
  exact set_one (k (h _ (by omega) (by omega)))
 ·iterate 6 rw[set_two (by omega)]
  exact set_one (k (k (h _ (by omega) (by omega))))
 ·iterate 5 rw[set_two (by omega)]
  exact set_one (k (k (k (h _ (by omega) (by omega)))))
 ·iterate 4 rw[set_two (by omega)]
  exact set_one (k (k (k (k (h _ (by omega) (by omega))))))
 ·iterate 3 rw[set_two (by omega)]
  exact set_one (k (k (k (k (k (h _ (by omega) (by omega)))))))
 ·iterate 2 rw[set_two (by omega)]
  exact set_one (k (k (k (k (k (k (h _ (by omega) (by omega))))))))
 ·rw[set_two (by omega)]
  exact set_one (k (k (k (k (k (k (k (h _ (by omega) (by omega)))))))))
 ·exact set_one (k (k (k (k (k (k (k (k (h _ (by omega) (by omega))))))))))
theorem StsAt.tab {w:World}{tb K:Nat}{W:World}{va vn:Value}{acc:List Bool}{rows:List (List Nat)}{gs:List Nat} (h:StsAt w tb K W va vn acc rows gs) {W':World} (hk:∀ b,w.heap.size≤b→W'.heap[b]?=W.heap[b]?):RowE eB W' va acc∧RowsE eI W' vn (nxI rows):=by
 refine⟨own_rowE (own_blk h.ar (fun b hb=>hk b (by have:=own_ge h.ar hb;omega))),gs.map (rowV K),by rw[List.length_map,nxI_len,h.gl],own_rowE (base:=w.heap.size+2) (e:=40) ?_,fun j h1 h2=>?_⟩
 ·have:=own_blk (w':=W') h.nr (fun b hb=>hk b (by have:=own_ge h.nr hb;omega))
  simpa using this
 ·have h1':j<gs.length:=by simpa using h1
  have h2':j<rows.length:=by simpa [nxI] using h2
  obtain⟨q1,q2,q3⟩:=h.rw j h1' h2'
  rw[nxI_at rows j h2',List.getElem_map]
  refine rowE_map (.inr ⟨gs[j],0,K,by rw[q3];rfl,fun i hi=>?_⟩)
  have e:=(hk gs[j] (by omega)).trans q1
  simp[World.cell?,e,hi]
structure SX (w6:World) (sb:Nat) (vb vf:Value) (e:Ex) (s:Sr):Prop where
 c0:w6.cell? ⟨sb,0,none⟩=some vb
 bs:BsAt w6 (sb+1) vb e.bs
 c12:w6.cell? ⟨sb,12,none⟩=some (.slice none 0 0)
 fz:∀ o,w6.frozen? ⟨sb,o,none⟩=false
 sr:SrAt w6 sb vf s
theorem sx_of {w4 w5:World}{sb:Nat}{va0 vf0 vb vf:Value}{e:Ex}{pc:Pc}{front:Bool} (hsb:sb<w4.heap.size) (hx:ExAt w5 sb vb vf e) (hg:Grw sb w4 va0 vf0 w5 vb vf) (h11:w4.cell? ⟨sb,11,none⟩=some (.bool front)) (h12:w4.cell? ⟨sb,12,none⟩=some (.slice none 0 0)) (hc:∀ o,2≤o→o≤10→∃ y,w4.cell? ⟨sb,o,none⟩=some y) :
  SX (P9 w5 sb pc) sb vb vf e ⟨e.fs,pc,front⟩:=by
 have hc5:∀ o,2≤o→o≤10→∃ y,w5.cell? ⟨sb,o,none⟩=some y:=fun o h1 h2=>by rw[hg.cl hsb o h1];exact hc o h1 h2
 obtain⟨a2,a3,a4,a5,a6,a7,a8,a9,a10⟩:=P9_at pc hc5
 obtain⟨ws,b1,b2⟩:=hx.bs
 refine⟨(P9_off _ _ _ (.inl (by omega))).trans hx.c0,⟨ws,b1.blk (fun b hb=>P9_blk _ _ _ ?_),b2⟩,?_,fun o=>(P9_fz _ _ _ _).trans (hx.fz o),⟨(P9_off _ _ _ (.inl (by omega))).trans hx.c1,hx.fs.blk (fun b hb=>P9_blk _ _ _ ?_),a2,a3,a4,a5,a6,a7,a8,a9,a10,?_⟩⟩
 ·have:=b1.lt hb;omega
 ·rw[P9_off _ _ _ (.inr (by omega)),hg.cl hsb 12 (by omega)];exact h12
 ·have:=hx.fs.lt hb;omega
 ·rw[P9_off _ _ _ (.inr (by omega)),hg.cl hsb 11 (by omega)];exact h11
theorem SX.classes {w6 w7:World}{sb:Nat}{vb vf vr:Value}{e:Ex}{s:Sr} (h:SX w6 sb vb vf e s) (hk:∀ o,o≠12→w7.cell? ⟨sb,o,none⟩=w6.cell? ⟨sb,o,none⟩) (hx:Exc (fun b=>b=sb) w6 w7):SrAt w7 sb vf s:=by
 obtain⟨k1,kf,k2,k3,k4,k5,k6,k7,k8,k9,k10,k11⟩:=h.sr
 refine⟨(hk 1 (by omega)).trans k1,kf.blk (fun b hb=>hx.block b (kf.lt hb).2 (by have:=(kf.lt hb).1;omega)),(hk 2 (by omega)).trans k2,(hk 3 (by omega)).trans k3,(hk 4 (by omega)).trans k4,(hk 5 (by omega)).trans k5,(hk 6 (by omega)).trans k6,(hk 7 (by omega)).trans k7,(hk 8 (by omega)).trans k8,(hk 9 (by omega)).trans k9,(hk 10 (by omega)).trans k10,(hk 11 (by omega)).trans k11⟩
theorem own_less {w:World}{base base':Nat}{e:TypeId}{size:Nat}{v:Value}{n:Nat}{xs:List Value} (h:w.ownsRow base e size v n xs) (hb:base'≤base):w.ownsRow base' e size v n xs:=by
 refine⟨h.1,?_⟩
 rcases h.2 with q|⟨g,cap,cur,h1,h2,h3⟩
 ·exact .inl q
 ·exact .inr ⟨g,cap,cur,h1,Nat.le_trans hb h2,h3⟩
end Go.Proofs.YtbjabpodkaokjaaGreatDoor

import Derived.Test.YtbjabpodkaokjaaGreatDoorJ22
set_option linter.unusedVariables false
set_option linter.unusedSimpArgs false
set_option maxHeartbeats 4000000
set_option maxRecDepth 100000
namespace Go.Proofs.YtbjabpodkaokjaaGreatDoor
open Go.RowKit
open Sx (Prt Cnt)
structure TR (m:Nat) (sb:Nat) (w:World) (vb vf:Value) (W:World) (vb' vf':Value) (e:Ex):Prop where
 at_:ExAt W sb vb' vf' e
 gr:Grw sb w vb vf W vb' vf'
 nw:∀ b,EFoot sb vb' vf' b→(sb≤b∧b<w.heap.size)∨w.heap.size+m≤b
 sz:w.heap.size+m≤W.heap.size
theorem TR.new {m:Nat}{w W:World}{sb:Nat}{vb vf:Value}{e:Ex}{n k:Nat} (h:Beg w sb vb vf e n k) (hb:Below w.heap.size w W) (hm:w.heap.size+m≤W.heap.size):TR m sb w vb vf W vb vf e:=
 ⟨h.at_.below hb,Grw.of_below hb,fun b hb=>.inl (h.lt hb),hm⟩
theorem TR.below {m:Nat}{sb:Nat}{w:World}{vb vf:Value}{W W':World}{vb' vf':Value}{e:Ex} (h:TR m sb w vb vf W vb' vf' e) (hb:Below W.heap.size W W'):TR m sb w vb vf W' vb' vf' e:=
 ⟨h.at_.below hb,h.gr.below hb,h.nw,Nat.le_trans h.sz hb.size⟩
theorem TR.call {m:Nat}{sb:Nat}{w:World}{vb vf:Value}{W W':World}{vb' vf' vb2 vf2:Value}{e e2:Ex} (h:TR m sb w vb vf W vb' vf' e) (hx:ExAt W' sb vb2 vf2 e2) (hg:Grw sb W vb' vf' W' vb2 vf2):TR m sb w vb vf W' vb2 vf2 e2:=by
 refine⟨hx,h.gr.trans hg,fun b hb=>?_,Nat.le_trans h.sz hg.exc.size⟩
 rcases hg.new b hb with q|q
 ·exact h.nw b q
 ·exact .inr (by have:=h.sz;omega)
theorem TR.same {m:Nat}{sb:Nat}{w:World}{vb vf:Value}{W W':World}{vb' vf' vb2 vf2:Value}{e:Ex} (h:TR m sb w vb vf W vb' vf' e) (hg:Grw sb W vb' vf' W' vb2 vf2) {j:Nat} (h1:w.heap.size≤j) (h2:j<w.heap.size+m):W'.heap[j]?=W.heap[j]?:=
 hg.same (by have:=h.sz;omega) (fun q=>by rcases h.nw j q with q'|q'<;>omega)
theorem TR.put {m:Nat}{sb:Nat}{w:World}{vb vf:Value}{W:World}{vb' vf':Value}{e:Ex} (h:TR m sb w vb vf W vb' vf' e) {q:Nat} (h1:w.heap.size≤q) (h2:q<w.heap.size+m) (p:Pc):TR m sb w vb vf (S9 W q p) vb' vf' e:=
 ⟨h.at_.put (fun k=>by rcases h.nw q k with q'|q'<;>omega) p,h.gr.put h1 p,h.nw,by rw[S9_size];exact h.sz⟩
theorem TR.tz {m:Nat}{sb:Nat}{w:World}{vb vf:Value}{W:World}{vb' vf':Value}{e e0:Ex}{n k:Nat} (h:TR m sb w vb vf W vb' vf' e) (hb:Beg w sb vb vf e0 n k):TabZ W:=
 hb.tz.keep (h.gr.same hb.tz.lt (fun q=>by have:=(hb.lt q).1;have:=hb.s1;omega))
theorem TR.beg {m:Nat}{sb:Nat}{w:World}{vb vf:Value}{W:World}{vb' vf':Value}{e e0:Ex}{n k n' k':Nat} (h:TR m sb w vb vf W vb' vf' e) (hb:Beg w sb vb vf e0 n k) (ho:ExOk n' e) (hl:n'+k'≤64):Beg W sb vb' vf' e n' k':=⟨h.tz hb,hb.s1,h.at_,ho,hl⟩
theorem TR.bl {m:Nat}{sb:Nat}{w:World}{vb vf:Value}{W:World}{vb' vf':Value}{e e0:Ex}{n k:Nat} (h:TR m sb w vb vf W vb' vf' e) (hb:Beg w sb vb vf e0 n k):Below sb w W:=hb.bl h.gr
structure TB (W:World) (H:Nat) (s:Sx.SixV) (z l m:Int):Prop where
 k0:W.heap[H]?=some (.cells #[.slice s.q0 s.q1 s.q2,.int .u64 s.y0,.int .u64 s.y1,.int .u64 s.y2,.int .u64 s.y3,.slice s.r0 s.r1 s.r2] 231)
 k1:W.heap[H+1]?=some (.cells #[.int .u8 z,.int .i64 l,.int .i64 m] 282)
 k2:W.heap[H+2]?=some (.cells zC 152)
theorem TB.keep {W W':World}{H:Nat}{s:Sx.SixV}{z l m:Int} (h:TB W H s z l m) (k:∀ j,H≤j→j<H+3→W'.heap[j]?=W.heap[j]?):TB W' H s z l m:=⟨(k _ (by omega) (by omega)).trans h.k0,(k _ (by omega) (by omega)).trans h.k1,(k _ (by omega) (by omega)).trans h.k2⟩
theorem TB.lt {W:World}{H:Nat}{s:Sx.SixV}{z l m:Int} (h:TB W H s z l m):H+2<W.heap.size:=(Array.getElem?_eq_some_iff.1 h.k2).1
theorem TB.al {W:World}{H:Nat}{s:Sx.SixV}{z l m:Int} (h:TB W H s z l m) (ob:Obj):TB (W.alloc ob) H s z l m:=h.keep (fun j h1 h2=>Below.heap_alloc _ _ _ (by have:=h.lt;omega))
theorem TB.zf {W:World}{H:Nat}{s:Sx.SixV}{z l m:Int} (h:TB W H s z l m) (o:Nat):W.frozen? ⟨H+2,o,none⟩=false:=by simp[World.frozen?,h.k2]
theorem box3 {w:World}{b:Nat}{x0 x1 x2:Value}{T:TypeId} (h:w.heap[b]?=some (.cells #[x0,x1,x2] T)):w.cell? ⟨b,0,none⟩=some x0∧w.cell? ⟨b,1,none⟩=some x1∧w.cell? ⟨b,2,none⟩=some x2:=by
 refine⟨?_,?_,?_⟩<;>simp[World.cell?,h]
abbrev tW (w:World) (s:Sx.SixV) (z l m:Int):World:=((w.alloc (.cells #[.slice s.q0 s.q1 s.q2,.int .u64 s.y0,.int .u64 s.y1,.int .u64 s.y2,.int .u64 s.y3,.slice s.r0 s.r1 s.r2] 231)).alloc (.cells #[.int .u8 z,.int .i64 l,.int .i64 m] 282)).alloc (.cells zC 152)
theorem tb_new (w:World) (s:Sx.SixV) (z l m:Int):TB (tW w s z l m) w.heap.size s z l m∧Below w.heap.size w (tW w s z l m)∧(tW w s z l m).heap.size=w.heap.size+3:=by
 refine⟨⟨al0 w _ _ _,al1 w _ _ _,al2 w _ _ _⟩,(((Below.refl _ _).alloc (Nat.le_refl _) _).alloc (by simp) _).alloc (by simp;omega) _,by simp⟩
structure TPre (w w1:World) (sb:Nat) (vb vf:Value) (e:Ex) (n:Nat) (p:Prt) (s:Sx.SixV) (z l m:Int):Prop where
 ew:w1=tW w s z l m
 t1:TR 3 sb w vb vf w1 vb vf e
 b1:TB w1 w.heap.size s z l m
 le:n+spP p≤64
 pt:Calls Tryz.prog 176 #[.pointer (some ⟨sb,0,none⟩),s.val] w1 (MkRes sb w1 vb vf (exP p e))
 ok:ExOk (n+spP p) (exP p e).2∧Pcs (n+spP p) (exP p e).1
theorem tPre (p:Prt) (hok:TrOk p) (hp:PartK p) (z l m:Int) (w:World) (sb:Nat) (vb vf:Value) (e:Ex) (n k:Nat) (s:Sx.SixV) (h:Beg w sb vb vf e n k) (hk:spP p≤k) (hR:Sx.RepP w (fun g=>g<sb) p s.cells):∃ w1,TPre w w1 sb vb vf e n p s z l m:=by
 obtain⟨t1,t2,t3⟩:=tb_new w s z l m
 have hb:=(h.less hk).below t2
 exact⟨tW w s z l m,rfl,TR.new h t2 (by omega),t1,hb.le,hp _ sb vb vf e n s hb (repP_keep hR (t2.mono (Nat.le_of_lt h.sb))),exP_ok p hok n e hb.le hb.ok⟩
theorem times_star (p:Prt) (l m:Int) (w w1:World) (sb:Nat) (vb vf:Value) (e:Ex) (n:Nat) (s:Sx.SixV) (h:Beg w sb vb vf e n (spP p)) (hpre:TPre w w1 sb vb vf e n p s 42 l m) (x:Pc×Ex) (hx:x=((exP p e).1.may,(exP p e).2.join (exP p e).1 (exP p e).1)) :
  Calls Tryz.prog 199 #[.pointer (some ⟨sb,0,none⟩),s.val,.agg #[.int .u8 42,.int .i64 l,.int .i64 m]] w (MkRes sb w vb vf x):=by
 have HH:Hid (Beg w sb vb vf e n (spP p)):=h;have HW:Hid (w1=((w.alloc (.cells #[.slice s.q0 s.q1 s.q2,.int .u64 s.y0,.int .u64 s.y1,.int .u64 s.y2,.int .u64 s.y3,.slice s.r0 s.r1 s.r2] 231)).alloc (.cells #[.int .u8 42,.int .i64 l,.int .i64 m] 282)).alloc (.cells zC 152)):=hpre.ew;have HT1:Hid (TR 3 sb w vb vf w1 vb vf e):=hpre.t1;have HB1:Hid (TB w1 w.heap.size s 42 l m):=hpre.b1;have HLE:Hid (n+spP p≤64):=hpre.le;have hpart:=hpre.pt;have hpok:=hpre.ok
 obtain⟨X,hX⟩:∃ X,X=exP p e:=⟨_,rfl⟩
 rw[←hX] at hpart hpok hx
 have HPOK:Hid (ExOk (n+spP p) X.2∧Pcs (n+spP p) X.1):=hpok
 have HRES:Hid (x=(X.1.may,X.2.join X.1 X.1)):=hx
 clear h hpre hpok hX hx
 go_enter Tryz.func199,Tryz.ntmps199
 go_wp2_with (first|(go_at_call 210;refine(maybe_any w3 X.1).mono ?_;rintro r w4 ⟨rfl,hb4⟩;have HT4:Hid (TR 3 sb w vb vf w4 vb2 vf2 _):=HT3.out.below hb4;have HB4:Hid (TB w4 w.heap.size s 42 l m):=HB3.out.keep (fun j h1 h2=>hb4.block j (by have:=HB3.out.lt;omega));clear hb4;obtain⟨z0,z1,z2,z3,z4,z5,z6,z7,z8⟩:=box9z HB4.out.k2;have zf:=HB4.out.zf)|(go_at_call 211;refine(again_any w2 sb vb2 vf2 X.2 X.1 (n+spP p) (HT2.out.tz HH.out) HH.out.s1 HT2.out.at_ HLE.out HPOK.out.1 HPOK.out.2).mono ?_;rintro r w3 ⟨rfl,hx3,hg3⟩;have HT3:Hid (TR 3 sb w vb vf w3 vb2 vf2 (X.2.join X.1 X.1)):=HT2.out.call hx3 hg3;have HB3:Hid (TB w3 w.heap.size s 42 l m):=HB2.out.keep (fun j h1 h2=>HT2.out.same hg3 h1 h2);clear hx3 hg3)|(go_at_call 176;rw[←HW.out];refine hpart.mono ?_;rintro r w2 ⟨rfl,vb2,vf2,hx2,hg2⟩;have HT2:Hid (TR 3 sb w vb vf w2 vb2 vf2 X.2):=HT1.out.call hx2 hg2;have HB2:Hid (TB w2 w.heap.size s 42 l m):=HB1.out.keep (fun j h1 h2=>HT1.out.same hg2 h1 h2);clear hx2 hg2))
 obtain⟨W,hW⟩:∃ W,W=S9 w4 (w.heap.size+1+1) X.1.may:=⟨_,rfl⟩;have hW2:=hW;simp only[S9] at hW2;rw[←hW2];have hq:W.heap[(w.heap.size+1+1)]?=some (.cells (pcC X.1.may) 152):=(by rw[hW];exact S9_own _ HB4.out.k2);obtain⟨r0,r1,r2,r3,r4,r5,r6,r7,r8⟩:=box9 hq;refine bodyPost_ret (v:=pcV X.1.may) (by simp[results,Tryz.results199,go_sem,r0,r1,r2,r3,r4,r5,r6,r7,r8]) rfl ?_;rw[HRES.out];have hfin:=HT4.out.put (q:=(w.heap.size+1+1)) (by omega) (by omega) X.1.may;rw[←hW] at hfin;exact⟨rfl,vb2,vf2,hfin.at_,hfin.gr⟩
theorem times_plus (p:Prt) (l m:Int) (w w1:World) (sb:Nat) (vb vf:Value) (e:Ex) (n:Nat) (s:Sx.SixV) (h:Beg w sb vb vf e n (spP p)) (hpre:TPre w w1 sb vb vf e n p s 43 l m) (x:Pc×Ex) (hx:x=((exP p e).1,(exP p e).2.join (exP p e).1 (exP p e).1)) :
  Calls Tryz.prog 199 #[.pointer (some ⟨sb,0,none⟩),s.val,.agg #[.int .u8 43,.int .i64 l,.int .i64 m]] w (MkRes sb w vb vf x):=by
 have HH:Hid (Beg w sb vb vf e n (spP p)):=h;have HW:Hid (w1=((w.alloc (.cells #[.slice s.q0 s.q1 s.q2,.int .u64 s.y0,.int .u64 s.y1,.int .u64 s.y2,.int .u64 s.y3,.slice s.r0 s.r1 s.r2] 231)).alloc (.cells #[.int .u8 43,.int .i64 l,.int .i64 m] 282)).alloc (.cells zC 152)):=hpre.ew;have HT1:Hid (TR 3 sb w vb vf w1 vb vf e):=hpre.t1;have HB1:Hid (TB w1 w.heap.size s 43 l m):=hpre.b1;have HLE:Hid (n+spP p≤64):=hpre.le;have hpart:=hpre.pt;have hpok:=hpre.ok
 obtain⟨X,hX⟩:∃ X,X=exP p e:=⟨_,rfl⟩
 rw[←hX] at hpart hpok hx
 have HPOK:Hid (ExOk (n+spP p) X.2∧Pcs (n+spP p) X.1):=hpok
 have HRES:Hid (x=(X.1,X.2.join X.1 X.1)):=hx
 clear h hpre hpok hX hx
 go_enter Tryz.func199,Tryz.ntmps199
 go_wp2_with (first|((go_at_call 211;refine(again_any w2 sb vb2 vf2 X.2 X.1 (n+spP p) (HT2.out.tz HH.out) HH.out.s1 HT2.out.at_ HLE.out HPOK.out.1 HPOK.out.2).mono ?_;rintro r w3 ⟨rfl,hx3,hg3⟩;have HT3:Hid (TR 3 sb w vb vf w3 vb2 vf2 (X.2.join X.1 X.1)):=HT2.out.call hx3 hg3;have HB3:Hid (TB w3 w.heap.size s 43 l m):=HB2.out.keep (fun j h1 h2=>HT2.out.same hg3 h1 h2);clear hx3 hg3);obtain⟨z0,z1,z2,z3,z4,z5,z6,z7,z8⟩:=box9z HB3.out.k2;have zf:=HB3.out.zf)|(go_at_call 176;rw[←HW.out];refine hpart.mono ?_;rintro r w2 ⟨rfl,vb2,vf2,hx2,hg2⟩;have HT2:Hid (TR 3 sb w vb vf w2 vb2 vf2 X.2):=HT1.out.call hx2 hg2;have HB2:Hid (TB w2 w.heap.size s 43 l m):=HB1.out.keep (fun j h1 h2=>HT1.out.same hg2 h1 h2);clear hx2 hg2))
 obtain⟨W,hW⟩:∃ W,W=S9 w3 (w.heap.size+1+1) X.1:=⟨_,rfl⟩;have hW2:=hW;simp only[S9] at hW2;rw[←hW2];have hq:W.heap[(w.heap.size+1+1)]?=some (.cells (pcC X.1) 152):=(by rw[hW];exact S9_own _ HB3.out.k2);obtain⟨r0,r1,r2,r3,r4,r5,r6,r7,r8⟩:=box9 hq;refine bodyPost_ret (v:=pcV X.1) (by simp[results,Tryz.results199,go_sem,r0,r1,r2,r3,r4,r5,r6,r7,r8]) rfl ?_;rw[HRES.out];have hfin:=HT3.out.put (q:=(w.heap.size+1+1)) (by omega) (by omega) X.1;rw[←hW] at hfin;exact⟨rfl,vb2,vf2,hfin.at_,hfin.gr⟩
theorem times_ask (p:Prt) (l m:Int) (w w1:World) (sb:Nat) (vb vf:Value) (e:Ex) (n:Nat) (s:Sx.SixV) (h:Beg w sb vb vf e n (spP p)) (hpre:TPre w w1 sb vb vf e n p s 63 l m) (x:Pc×Ex) (hx:x=((exP p e).1.may,(exP p e).2)) :
  Calls Tryz.prog 199 #[.pointer (some ⟨sb,0,none⟩),s.val,.agg #[.int .u8 63,.int .i64 l,.int .i64 m]] w (MkRes sb w vb vf x):=by
 have HH:Hid (Beg w sb vb vf e n (spP p)):=h;have HW:Hid (w1=((w.alloc (.cells #[.slice s.q0 s.q1 s.q2,.int .u64 s.y0,.int .u64 s.y1,.int .u64 s.y2,.int .u64 s.y3,.slice s.r0 s.r1 s.r2] 231)).alloc (.cells #[.int .u8 63,.int .i64 l,.int .i64 m] 282)).alloc (.cells zC 152)):=hpre.ew;have HT1:Hid (TR 3 sb w vb vf w1 vb vf e):=hpre.t1;have HB1:Hid (TB w1 w.heap.size s 63 l m):=hpre.b1;have HLE:Hid (n+spP p≤64):=hpre.le;have hpart:=hpre.pt;have hpok:=hpre.ok
 obtain⟨X,hX⟩:∃ X,X=exP p e:=⟨_,rfl⟩
 rw[←hX] at hpart hpok hx
 have HPOK:Hid (ExOk (n+spP p) X.2∧Pcs (n+spP p) X.1):=hpok
 have HRES:Hid (x=(X.1.may,X.2)):=hx
 clear h hpre hpok hX hx
 go_enter Tryz.func199,Tryz.ntmps199
 go_wp2_with (first|(go_at_call 210;refine(maybe_any w2 X.1).mono ?_;rintro r w4 ⟨rfl,hb4⟩;have HT4:Hid (TR 3 sb w vb vf w4 vb2 vf2 _):=HT2.out.below hb4;have HB4:Hid (TB w4 w.heap.size s 63 l m):=HB2.out.keep (fun j h1 h2=>hb4.block j (by have:=HB2.out.lt;omega));clear hb4;obtain⟨z0,z1,z2,z3,z4,z5,z6,z7,z8⟩:=box9z HB4.out.k2;have zf:=HB4.out.zf)|(go_at_call 176;rw[←HW.out];refine hpart.mono ?_;rintro r w2 ⟨rfl,vb2,vf2,hx2,hg2⟩;have HT2:Hid (TR 3 sb w vb vf w2 vb2 vf2 X.2):=HT1.out.call hx2 hg2;have HB2:Hid (TB w2 w.heap.size s 63 l m):=HB1.out.keep (fun j h1 h2=>HT1.out.same hg2 h1 h2);clear hx2 hg2))
 obtain⟨W,hW⟩:∃ W,W=S9 w4 (w.heap.size+1+1) X.1.may:=⟨_,rfl⟩;have hW2:=hW;simp only[S9] at hW2;rw[←hW2];have hq:W.heap[(w.heap.size+1+1)]?=some (.cells (pcC X.1.may) 152):=(by rw[hW];exact S9_own _ HB4.out.k2);obtain⟨r0,r1,r2,r3,r4,r5,r6,r7,r8⟩:=box9 hq;refine bodyPost_ret (v:=pcV X.1.may) (by simp[results,Tryz.results199,go_sem,r0,r1,r2,r3,r4,r5,r6,r7,r8]) rfl ?_;rw[HRES.out];have hfin:=HT4.out.put (q:=(w.heap.size+1+1)) (by omega) (by omega) X.1.may;rw[←hW] at hfin;exact⟨rfl,vb2,vf2,hfin.at_,hfin.gr⟩
end Go.Proofs.YtbjabpodkaokjaaGreatDoor

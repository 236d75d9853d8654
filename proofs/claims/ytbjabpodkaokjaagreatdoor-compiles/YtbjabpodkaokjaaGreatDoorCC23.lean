import Derived.Test.YtbjabpodkaokjaaGreatDoorCC22
set_option linter.all false
set_option maxHeartbeats 4000000
set_option maxRecDepth 100000
open List Nat Go.World Go.Proofs.Tryz
namespace Go.Proofs.YtbjabpodkaokjaaGreatDoor
open Go.RowKit
variable {W:World}{full:List Nat}{c K qb rb:Nat}{x:W4}{b:Bool}{r:List Nat}{v:Value}{tk:Nat}{W' w:World}{sb tb:Nat}{vf vr:Value}{s:Sr}{n:Nat}{rs:List W4}
structure xZ (w:World) (tb K:Nat) (W:World) (va vn:Value) (acc:List Bool) (rows:List (List Nat)) (gs:List Nat):Prop where
 c4:W.cell? ⟨tb,4,none⟩=some va
 ar:W.ownsRow (w.heap.size+2) 4 1 va acc.length (acc.map eB)
 c5:W.cell? ⟨tb,5,none⟩=some vn
 nr:W.ownsRow (w.heap.size+2) 40 1 vn gs.length (gs.map (jH K))
 gl:gs.length=rows.length
 rw:∀ j (h1:j<gs.length) (h2:j<rows.length),W.heap[gs[j]]?=some (.cells (rows[j].map eN).toArray 3 (0,0))/\w.heap.size+2<=gs[j]/\rows[j].length=K
 cs:∀ o,o≠4->o≠5->W.cell? ⟨tb,o,none⟩=w.cell? ⟨tb,o,none⟩
 ex:cd (λb=>b=tb) w W
def SI.at_ {v va vn:Value}{met:List fZ}{acc:List Bool}{rows:List (List Nat)}{gs:List Nat} (h:SS w tb K W v va vn met tk acc rows gs):xZ w tb K W va vn acc rows gs:=⟨h.c4,h.ar,h.c5,h.nr,h.gl,h.rw,h.cs,h.ex⟩
structure DV (w:World) (sb tb:Nat) (vf vr:Value) (s:Sr) (n:Nat) (rs:List W4):Prop where
 tz:TabZ w
 s1:1<sb
 st:sb<tb
 sr:lQ w sb vf s
 ok:Gi n s
 rc:w.cell? ⟨sb,12,none⟩=some vr
 rf:dq 150 w (sb+1) vr rs
 rn:vr.ownBlock≠some tb
 fn:vf.ownBlock≠some tb
 rk:∀ r∈rs,Sp n r
 rl:rs.length<=256
 t4:w.cell? ⟨tb,4,none⟩=some (.slice none 0 0)
 t5:w.cell? ⟨tb,5,none⟩=some (.slice none 0 0)
 tf:∀ o,w.frozen? ⟨tb,o,none⟩=false
theorem DV.keep (h:DV w sb tb vf vr s n rs) (hx:cd (λb=>b=tb) w W):TabZ W/\lQ W sb vf s/\W.cell? ⟨sb,12,none⟩=some vr/\dq 150 W (sb+1) vr rs:=by
 have h1:=h.s1;have h2:=h.st;have es:=hx.block sb h.sr.lt ω;refine⟨h.tz.keep (hx.block 1 h.tz.lt ω),h.sr.keep es (λb hb=>hx.block b (h.sr.fs.lt hb).2 (λq=>h.fn (q▸hb))),?_,h.rf.blk (λb hb=>hx.block b (h.rf.lt hb).2 (λq=>h.rn (q▸hb)))⟩;rw[<-h.rc];simp[cell?,es]
def x_ (hk:Gi n s) (q:fZ) {rd:W4} (hrd:Sp n rd):(bq s q rd).ok:=by
 have h1:Sp n (fC s.fs (q.w.and rd).all W4.none):=rj _ hk.f (Sp.none n);unfold bq
 split
 .have:=h1.ok hk.n64;exact⟨this.l0,this.l1,this.l2,this.l3⟩
 .have:=(h1.or hk.w.f).ok hk.n64;exact⟨this.l0,this.l1,this.l2,this.l3⟩
def yd (n:Nat) (z:Value) (hz:z.cells=#[z]):jp n z=(replicate n z).toArray:=by
 apply Array.ext
 .simp[jp,madeCells,hz]
 .intro i h1 h2;have:=mJ hz n i (by simpa using h2);rw[Array.getElem?_eq_getElem h1] at this
  simpa using this
def rowP (full:List Nat) (c:Nat):List Nat:=full.take c++replicate (full.length-c) 0
theorem uh (full:List Nat):rowP full 0=replicate full.length 0:=by simp[rowP]
theorem ye (full:List Nat):rowP full full.length=full:=by simp[rowP]
variable (full c) in
def yg (h:c<full.length):(rowP full c).set c full[c]=rowP full (c+1):=by
 obtain⟨d,hd⟩:∃ d,full.length-c=d+1:=⟨full.length-c-1,ω⟩
 unfold rowP;rw[hd,replicate_succ,show full.length-(c+1)=d by omega,set_append_right _ _ σ,length_take,Nat.min_eq_left ω,Nat.sub_self,set_cons_zero,Zl h,append_assoc];rfl
variable (full c) in
def yh (h:c<=full.length):(rowP full c).length=full.length:=by simp[rowP];omega
structure RB (W:World) (qb rb:Nat) (x:W4) (b:Bool) (r:List Nat):Prop where
 q:W.heap[qb]?=some (.cells (Ay x b) 244)
 r:W.heap[rb]?=some (.cells (r.map eN).toArray 3 (0,0))
def RB.keep (h:RB W qb rb x b r) (k1:W'.heap[qb]?=W.heap[qb]?) (k2:W'.heap[rb]?=W.heap[rb]?):RB W' qb rb x b r:=⟨k1.trans h.q,k2.trans h.r⟩
def RB.below (h:RB W qb rb x b r) (hb:Below W.heap.size W W'):RB W' qb rb x b r:=h.keep (hb.block _ (ZC h.q)) (hb.block _ (ZC h.r))
theorem RB.set (h:RB W qb rb x b r) (hne:qb≠rb) (c z:Nat):RB (W.setCell ⟨rb,c,none⟩ (eN z)) qb rb x b (r.set c z):=by
 refine⟨(ah _ _ _ _ hne).trans h.q,?_⟩;rw[ap h.r];simp[map_set]
def lG (p:Nat) (w:World):Nat:=match w.cell? ⟨p,2,none⟩ with|some (.int _ z)=>z.toNat|_=>0
def jK {te:TypeId}{size:Nat}{p mb:Nat}{vs:List Value} (h:av te size w p mb v vs tk):lG p w=tk:=by
 unfold lG;rw[h.c2];simp
variable (w sb tb vf vr s n rs) in
def AN (limit:Nat) (hl:1<=limit/\limit<=200) (h:DV w sb tb vf vr s n rs) (R:Option (List fZ×List (List Nat))) (hR:R=bG (bq s) rs limit 202 [fw s.whole.first s.whole.empty] 0 []) :
  Calls prog 75 #[.pointer (some ⟨sb,0,none⟩),.pointer (some ⟨tb,0,none⟩),.int .i64 (limit:Int)] w λe w'=>(R=none/\e=.returned (.bool false)/\cd (λb=>b=tb) w w')\/(∃ x va vn gs,R=some x/\e=.returned (.bool true)/\xZ w tb rs.length w' va vn (x.1.map (·.ends)) x.2 gs):=by
 have HP:Hid (DV w sb tb vf vr s n rs):=h;have i1:=Dd w;clear h;have G:s.whole.first.ok:=HP.out.ok.w.f.ok HP.out.ok.n64;have k0:=HP.out.sr;have b1:Hid (∀ w1,av 244 5 w1 (w.heap.size+1) w.heap.size (.slice none 0 0) [] 0->Below w.heap.size w w1->SS w tb rs.length w1 (.slice none 0 0) (.slice none 0 0) (.slice none 0 0) [] 0 [] [] []):=λw1 hn hb=>by
  have X:tb<w.heap.size:=aF HP.out.t4;have et:=hb.block tb X;refine⟨hn,λg hg=>by simp[Value.ownBlock] at hg,?_,Zn _ _ _ _,?_,Zn _ _ _ _,rfl,λj h1=>by simp at h1,λo _ _=>by simp[cell?,et],λo=>?_,cd.of_below _ hb,X,Zr,Zr,Zr⟩
  .rw[<-HP.out.t4];simp[cell?,et]
  .rw[<-HP.out.t5];simp[cell?,et]
  .rw[<-HP.out.tf o];simp[frozen?,et]
 have HR:Hid (R=bG (bq s) rs limit 202 [fw s.whole.first s.whole.empty] 0 []):=hR;clear hR;obtain⟨J,hJ⟩:∃ J:Act->World->Prop,∀ a' w',J a' w'↔((∃ tk d l v va vn gs,SS w tb rs.length w' v va vn d tk ((d.take tk).map (·.ends)) l gs/\(∀ q∈d,q.ok)/\d.Nodup/\d.length<=limit/\l.length=tk/\bG (bq s) rs limit (202-tk) d tk l=R)/\∃ u8 u9 u10 u11 u12 u13 u14 u15 u16 u17 u18 u19 u20 u21 u22 u23 u24 u25 u26 u27 u28 u29 u30 u31 u32 u33 u34 u35 u36 u37 u38 u39 u40 u41 u42 u43 u44 u45 u46 u47 u48 u49 u50 u51 u52 u53 u54 u55 u56 u57 u58 u59 u60 u61 u62 u63 u64 u65 u66 u67 u68 u69 u70 u71 u72 u73 u74 u75 u76 u77 u78 u79 u80 u81 u82 u83 u84,a'={tmps:=#[.pointer (some ⟨sb,0,none⟩),.pointer (some ⟨tb,0,none⟩),.int .i64 (limit:Int),undef,undef,undef,.bool false,.pointer (some ⟨w.heap.size+1,0,none⟩),u8,u9,u10,u11,u12,u13,u14,u15,u16,u17,u18,u19,u20,u21,u22,u23,u24,u25,u26,u27,u28,u29,u30,u31,u32,u33,u34,u35,u36,u37,u38,u39,u40,u41,u42,u43,u44,u45,u46,u47,u48,u49,u50,u51,u52,u53,u54,u55,u56,u57,u58,u59,u60,u61,u62,u63,u64,u65,u66,u67,u68,u69,u70,u71,u72,u73,u74,u75,u76,u77,u78,u79,u80,u81,u82,u83,u84],defers:=[]}):=⟨_,λ_ _=>Iff.rfl⟩
 have HJ:Hid (∀ a' w',J a' w'↔((∃ tk d l v va vn gs,SS w tb rs.length w' v va vn d tk ((d.take tk).map (·.ends)) l gs/\(∀ q∈d,q.ok)/\d.Nodup/\d.length<=limit/\l.length=tk/\bG (bq s) rs limit (202-tk) d tk l=R)/\∃ u8 u9 u10 u11 u12 u13 u14 u15 u16 u17 u18 u19 u20 u21 u22 u23 u24 u25 u26 u27 u28 u29 u30 u31 u32 u33 u34 u35 u36 u37 u38 u39 u40 u41 u42 u43 u44 u45 u46 u47 u48 u49 u50 u51 u52 u53 u54 u55 u56 u57 u58 u59 u60 u61 u62 u63 u64 u65 u66 u67 u68 u69 u70 u71 u72 u73 u74 u75 u76 u77 u78 u79 u80 u81 u82 u83 u84,a'={tmps:=#[.pointer (some ⟨sb,0,none⟩),.pointer (some ⟨tb,0,none⟩),.int .i64 (limit:Int),undef,undef,undef,.bool false,.pointer (some ⟨w.heap.size+1,0,none⟩),u8,u9,u10,u11,u12,u13,u14,u15,u16,u17,u18,u19,u20,u21,u22,u23,u24,u25,u26,u27,u28,u29,u30,u31,u32,u33,u34,u35,u36,u37,u38,u39,u40,u41,u42,u43,u44,u45,u46,u47,u48,u49,u50,u51,u52,u53,u54,u55,u56,u57,u58,u59,u60,u61,u62,u63,u64,u65,u66,u67,u68,u69,u70,u71,u72,u73,u74,u75,u76,u77,u78,u79,u80,u81,u82,u83,u84],defers:=[]})):=hJ;clear hJ
 go_enter func75,ntmps75
 go_wp2
 refine Sx.ce 0 J (λ_ w'=>202-lG (w.heap.size+1) w') rfl ?_ ?_
 .intro hp;have l0:Hid _:=hp;clear hp;go_wp2_with (go_at_call 129;refine i1.mono ?_;rintro e w1 ⟨rfl,g9,e9⟩;have j3:Hid (SS w tb rs.length w1 (.slice none 0 0) (.slice none 0 0) (.slice none 0 0) [] 0 [] [] []):=b1.out w1 g9 e9;have f6:=k0.below e9;clear g9 e9)
  obtain⟨-,-,f0,f1,f2,f3,-,-,-,-,em,-⟩:=f6;have g3:=wR w1.drew (w.heap.size+1) w.heap.size (.slice none 0 0) [] 0 (fw s.whole.first s.whole.empty) ((j3.out.below ZB.drew).num) χ ⟨G.l0,G.l1,G.l2,G.l3⟩ χ χ;simp only[fZ.v,fw] at g3
  go_region_with (go_at_call 130;refine g3.mono ?_;rintro e w2 ⟨rfl,v2,a3,i2,Q⟩;have F:Hid (SS w tb rs.length w2 v2 (.slice none 0 0) (.slice none 0 0) [fw s.whole.first s.whole.empty] 0 [] [] []):=(j3.out.below ZB.drew).of a3 i2 Q;clear a3 i2 Q)
  all_goals (
   go_wp2
   go_step3
   exact ‹∀ a w,Code.wp _ _ _ a w->_› _ _ (l0.out _ _ ((HJ.out _ _).2 ⟨⟨0,[fw s.whole.first s.whole.empty],[],v2,.slice none 0 0,.slice none 0 0,[],F.out,by simp;exact⟨G.l0,G.l1,G.l2,G.l3⟩,χ,σ,rfl,HR.out.symm⟩,_,_,_,_,_,_,_,_,_,_,_,_,_,_,_,_,_,_,_,_,_,_,_,_,_,_,_,_,_,_,_,_,_,_,_,_,_,_,_,_,_,_,_,_,_,_,_,_,_,_,_,_,_,_,_,_,_,_,_,_,_,_,_,_,_,_,_,_,_,_,_,_,_,_,_,_,_,rfl⟩)))
 .intro a' w' hj;obtain⟨⟨tk,d,l,v,va,vn,gs,p,b5,l3,o7,o6,C⟩,u8,u9,u10,u11,u12,u13,u14,u15,u16,u17,u18,u19,u20,u21,u22,u23,u24,u25,u26,u27,u28,u29,u30,u31,u32,u33,u34,u35,u36,u37,u38,u39,u40,u41,u42,u43,u44,u45,u46,u47,u48,u49,u50,u51,u52,u53,u54,u55,u56,u57,u58,u59,u60,u61,u62,u63,u64,u65,u66,u67,u68,u69,u70,u71,u72,u73,u74,u75,u76,u77,u78,u79,u80,u81,u82,u83,u84,rfl⟩:=(HJ.out _ _).1 hj;clear hj;have d2:Hid (SS w tb rs.length w' v va vn d tk ((d.take tk).map (·.ends)) l gs):=p;have m1:Hid (av 244 5 w' (w.heap.size+1) w.heap.size v (d.map fZ.v) tk):=p.num;have l1:=p.num.tl;simp only[length_map] at l1;obtain⟨f,hf⟩:∃ f,202-tk=f+1:=⟨201-tk,ω⟩
  rw[hf] at C;simp only[bG] at C
  cases hq:d[tk]? with
  |none=>
   have m8:tk=d.length:=by have:=List.getElem?_eq_none_iff.1 hq;omega
   rw[hq] at C
   simp only at C
   have HQ:Hid (R=some (d,l)):=C.symm;subst m8;have b0:=wT w' (w.heap.size+1) w.heap.size v (d.map fZ.v) (by have:=p.num;simpa using this);clear C p;go_wp2_with (go_at_call 131;refine b0.mono ?_;rintro e w2 ⟨rfl,i6⟩;have F:Hid (SS w tb rs.length w2 v va vn d d.length ((d.take d.length).map (·.ends)) l gs):=d2.out.below i6;clear i6)
   simp only[Exit.jump];go_ret
   have b8:=F.out.below (show Below w2.heap.size w2 (w2.alloc (.cells #[.int .u64 0,.int .u64 0,.int .u64 0,.int .u64 0,.bool false] 244)) from ZA);rw[take_length] at b8;exact .inr ⟨(d,l),va,vn,gs,HQ.out,rfl,b8.at_⟩
  |some q=>
   have X:=(List.getElem?_eq_some_iff.1 hq).1;rw[hq] at C
   simp only at C
   have j1:(d.map fZ.v)[tk]?=some (mi q.x0 q.x1 q.x2 q.x3 q.ends):=by rw[getElem?_map,hq];rfl
   have L:q.ok:=b5 q (mem_of_getElem? hq);have b0:=wU w' (w.heap.size+1) w.heap.size v (d.map fZ.v) tk q.x0 q.x1 q.x2 q.x3 q.ends p.num j1 σ;have a9:Hid ((if limit<(ai d (rs.map (bq s q))).length then none else bG (bq s) rs limit f (ai d (rs.map (bq s q))) (tk+1) (l++[(rs.map (bq s q)).map (ai d (rs.map (bq s q))).idxOf]))=R):=C;have b3:Hid ((d.take (tk+1)).map (·.ends)=(d.take tk).map (·.ends)++[q.ends]):=by
    show _=_;obtain⟨h1,h2⟩:=List.getElem?_eq_some_iff.1 hq;rw[Zl h1,map_append,h2];rfl
   have b9:∀ g,g∈gs->g<w'.heap.size:=λg hg=>by
    obtain⟨j,hj,rfl⟩:=getElem_of_mem hg;exact(Array.getElem?_eq_some_iff.1 (p.rw j hj (by rw[<-p.gl];exact hj)).1).1
   obtain⟨K,hK⟩:∃ K,K=rs.length:=⟨_,rfl⟩
   have j9:K<=256:=by rw[hK];exact HP.out.rl
   rw[<-hK] at d2;have HK:Hid (K=rs.length):=hK;obtain⟨iI,n1,n2,h6,i8⟩:=info_parts Tryz.infoI;have k5:=λw0=>dv underlying40 n1 n2 h6 i8 K ω Zs w0
   obtain⟨d7,e2,d3⟩:=HP.out.rf.form;rw[<-hK] at d3;have l6:Hid (vr=.slice d7 K e2):=d3;have i3:Hid (∀ W,cd (λb=>b=tb) w W->TabZ W/\lQ W sb vf s/\W.cell? ⟨sb,12,none⟩=some (.slice d7 K e2)/\dq 150 W (sb+1) (.slice d7 K e2) rs):=λW hx=>by
    have:=HP.out.keep hx;rw[l6.out] at this;exact this
   have d4:∀ W:World,¬(sb=W.heap.size+100000000000)\/True:=λ_=>.inr trivial
   clear d4 C p hq hK d3 j1;go_wp2_with (go_at_call 131;refine b0.mono ?_;rintro e w2 ⟨rfl,a3,Q⟩;have d6:SS w tb K w2 v va vn d (tk+1) ((d.take tk).map (·.ends)) l gs:=d2.out.of a3 (λg hg=>.inl hg) Q;have F:Hid (SS w tb K w2 v va vn d (tk+1) ((d.take tk).map (·.ends)) l gs):=d6;have i9:=Q.size;have V:=(i3.out w2 d6.ex).2.2.1;have f7:sb<w2.heap.size:=aF V;have g7:=(λob=>cell_below (ZB.alloc zq ob:Below w2.heap.size w2 (w2.alloc ob)) V);clear a3 Q d6)
   obtain⟨w3,N⟩:∃ w3,w3=(w2.alloc (.cells #[.int .u64 (q.x0:Int),.int .u64 (q.x1:Int),.int .u64 (q.x2:Int),.int .u64 (q.x3:Int),.bool q.ends] 244)).alloc (.cells (jp K (.int .i64 0)) 3):=⟨_,rfl⟩
   rw[<-N];have f9:Below w2.heap.size w2 w3:=by rw[N];exact ZA.alloc χ _
   have l7:w3.heap.size=w2.heap.size+2:=by rw[N];simp
   have c0:RB w3 w2.heap.size (w2.heap.size+1) q.w q.ends (replicate K 0):=by
    refine⟨?_,?_⟩
    .rw[N,Ze _ _ _ χ];exact Za w2 _
    .have e0:((replicate K 0).map eN).toArray=jp K (.int .i64 0):=by rw[yd _ _ rfl,map_replicate];rfl
     rw[e0,N];have:=Za (w2.alloc (.cells #[.int .u64 (q.x0:Int),.int .u64 (q.x1:Int),.int .u64 (q.x2:Int),.int .u64 (q.x3:Int),.bool q.ends] 244)) (.cells (jp K (.int .i64 0)) 3)
     simpa using this
   have m9:Hid (SS w tb K w3 v va vn d (tk+1) ((d.take tk).map (·.ends)) l gs):=F.out.below f9;obtain⟨full,I⟩:∃ full,full=(rs.map (bq s q)).map (ai d (rs.map (bq s q))).idxOf:=⟨_,rfl⟩
   have d9:full.length=K:=by rw[I];simp;exact HK.out.symm
   have b7:Hid (RB w3 w2.heap.size (w2.heap.size+1) q.w q.ends (rowP full 0)):=by rw[uh,d9];exact c0
   have g8:Hid (full=(rs.map (bq s q)).map (ai d (rs.map (bq s q))).idxOf):=I;obtain⟨H2,h7⟩:∃ H2,H2=w2.heap.size:=⟨_,rfl⟩
   have k8:Hid (∀ g∈gs,g<H2):=λg hg=>by have:=b9 g hg;omega
   have n8:w.heap.size+2<=H2:=by have:=F.out.num.lt (.inl rfl);omega
   have c1:w3.heap.size=H2+2:=ω;rw[<-h7] at b7 ⊢;have p0:Hid (w3.heap.size=H2+2):=c1;have m4:Hid (∀ g,v.ownBlock=some g->g≠H2/\g≠H2+1):=λg hg=>by have:=de F.out.num.own hg;omega
   clear N f9 l7 c0 I h7 V g7 b0 b9 f7 i9 k5 c1 F;have b4:=HP.out.rk;have c3:Hid (∀ c,c<=K->(∀ y∈ai d ((rs.take c).map (bq s q)),y.ok)/\(ai d ((rs.take c).map (bq s q))).Nodup/\(ai d ((rs.take c).map (bq s q))).length<=456):=λc hc=>by
    refine⟨λy hy=>?_,bR l3 _,?_⟩
    .rcases aH.1 hy with hy|hy
     .exact b5 y hy
     .obtain⟨r,hr,rfl⟩:=mem_map.1 hy;exact x_ HP.out.ok q (b4 r (mem_of_mem_take hr))
    .have h1:=c_ d ((rs.take c).map (bq s q));have h2:=HP.out.rl;rw[length_map,length_take] at h1;omega
   go_loopw [45] (λi wr=>∃(c:Nat) (v':Value),c<=K/\i=.int .i64 c/\SS w tb K wr v' va vn (ai d ((rs.take c).map (bq s q))) (tk+1) ((d.take tk).map (·.ends)) l gs/\RB wr H2 (H2+1) q.w q.ends (rowP full c)/\(∀ g,v'.ownBlock=some g->g≠H2/\g≠H2+1)) (λi _=>K-(intOf i).toNat)
   case atStart=>exact⟨0,v,ω,rfl,m9.out,b7.out,m4.out⟩
   case round=>
    obtain⟨c,v',hc,rfl,p,Y,g2⟩:=hrel;have j2:Hid (∀ g,v'.ownBlock=some g->g≠H2/\g≠H2+1):=g2;clear g2;have B:Hid (SS w tb K wr v' va vn (ai d ((rs.take c).map (bq s q))) (tk+1) ((d.take tk).map (·.ends)) l gs):=p;have a2:Hid (RB wr H2 (H2+1) q.w q.ends (rowP full c)):=Y
    by_cases hlt:c<K
    .have n4:(c:Int)<K:=ω;have e3:c<rs.length:=by have:=HK.out;omega
     obtain⟨d5,c7,o4,i0⟩:=i3.out wr p.ex;obtain⟨g,o3,e1,hg,n0⟩:=i0.at e3;simp only[Value.slice.injEq] at e1;obtain⟨rfl,-,rfl⟩:=e1;obtain⟨x0,x1,x2,x3,-⟩:=n0;have b2:Sp n rs[c]:=b4 _ (Zg _);have u:=c3.out c hc;have M:Hid (ai d ((rs.take (c+1)).map (bq s q))=aq (ai d ((rs.take c).map (bq s q))) (bq s q rs[c])):=by
      show _=_;rw[Zl e3,map_append,cO];rfl
     have a5:Hid (full[c]'ω=(aq (ai d ((rs.take c).map (bq s q))) (bq s q rs[c])).idxOf (bq s q rs[c])):=by
      show _=_;have h2:c<(rs.map (bq s q)).length:=by simpa using e3
      have:=qw d h2;rw[<-map_take,getElem_map] at this;rw[<-this];simp only[g8.out,getElem_map]
     have E:=x_ HP.out.ok q b2;obtain⟨rd,c6⟩:∃ rd,rd=rs[c]:=⟨_,rfl⟩
     rw[<-c6] at x0 x1 x2 x3 b2 M a5 E;obtain⟨m,hm⟩:∃ m,m=ai d ((rs.take c).map (bq s q)):=⟨_,rfl⟩
     rw[<-hm] at u M a5 B;have D:Below wr.heap.size wr (wr.alloc (.cells #[.int .u64 (rd.x0:Int),.int .u64 (rd.x1:Int),.int .u64 (rd.x2:Int),.int .u64 (rd.x3:Int)] 150)):=ZA;have c9:=c7.below D;have a8:=Gk (wr.alloc (.cells #[.int .u64 (rd.x0:Int),.int .u64 (rd.x1:Int),.int .u64 (rd.x2:Int),.int .u64 (rd.x3:Int)] 150)) sb vf s n q.w q.ends rd (d5.keep (D.block 1 d5.lt)) HP.out.s1 c9 HP.out.ok ⟨L.l0,L.l1,L.l2,L.l3⟩ b2;have i5:fw q.w q.ends=q:=rfl;rw[i5] at a8;obtain⟨z,hz⟩:∃ z,z=bq s q rd:=⟨_,rfl⟩
     rw[<-hz] at a8 M a5 E;simp only[W4.v,fZ.v] at a8;have m3:Hid (Below wr.heap.size wr (wr.alloc (.cells #[.int .u64 (rd.x0:Int),.int .u64 (rd.x1:Int),.int .u64 (rd.x2:Int),.int .u64 (rd.x3:Int)] 150))):=D;have f4:Hid (∀ w4,SS w tb K w4 v' va vn m (tk+1) ((d.take tk).map (·.ends)) l gs->Calls prog 130 #[.pointer (some ⟨w.heap.size+1,0,none⟩),mi z.x0 z.x1 z.x2 z.x3 z.ends] w4 λe w'=>e=.returned (.int .i64 ((full[c]'ω:Nat):Int))/\∃ v2,av 244 5 w' (w.heap.size+1) w.heap.size v2 ((aq m z).map fZ.v) (tk+1)/\(∀ g,v2.ownBlock=some g->v'.ownBlock=some g\/w4.heap.size<=g)/\cd (cZ (w.heap.size+1) w.heap.size v') w4 w'):=λw4 hs4=>by
      rw[a5.out];exact wR w4 (w.heap.size+1) w.heap.size v' m (tk+1) z hs4.num u.1 E ω u.2.1
     have o5:=q_ Y.q;have o1:=q_ (a2.out.below D).q;obtain⟨fc,e4⟩:∃ fc,fc=full[c]'ω:=⟨_,rfl⟩
     have d0:Hid (fc=full[c]'ω):=e4;rw[<-e4] at f4;have j5:Hid (∀ w5:World,w5.heap[H2]?=wr.heap[H2]?->w5.heap[H2+1]?=wr.heap[H2+1]?->RB (w5.setCell ⟨H2+1,c,none⟩ (eN fc)) H2 (H2+1) q.w q.ends (rowP full (c+1))/\(∃ y,w5.cell? ⟨H2+1,c,none⟩=some y)/\∀ o,w5.frozen? ⟨H2+1,o,none⟩=false):=λw5 k1 k2=>by
      have h5:=a2.out.keep k1 k2;refine⟨?_,?_,λo=>by simp[frozen?,h5.r]⟩
      .have:=h5.set ω c fc;rw[d0.out,yg full c ω] at this;rw[d0.out];exact this
      .refine⟨_,by
        simp only[cell?,h5.r];simp[yh full c ω,show c<full.length by omega]
        rfl⟩
     have l8:Hid (H2+2<=wr.heap.size):=(ZC a2.out.r)
     have j0:Hid (∀ w4 w5 v2,Below wr.heap.size wr w4->SS w tb K w4 v' va vn m (tk+1) ((d.take tk).map (·.ends)) l gs->av 244 5 w5 (w.heap.size+1) w.heap.size v2 ((aq m z).map fZ.v) (tk+1)->(∀ g,v2.ownBlock=some g->v'.ownBlock=some g\/w4.heap.size<=g)->cd (cZ (w.heap.size+1) w.heap.size v') w4 w5->(SS w tb K (w5.setCell ⟨H2+1,c,none⟩ (eN fc)) v2 va vn (aq m z) (tk+1) ((d.take tk).map (·.ends)) l gs/\RB (w5.setCell ⟨H2+1,c,none⟩ (eN fc)) H2 (H2+1) q.w q.ends (rowP full (c+1))/\(∀ g,v2.ownBlock=some g->g≠H2/\g≠H2+1))/\(∃ y,w5.cell? ⟨H2+1,c,none⟩=some y)/\∀ o,w5.frozen? ⟨H2+1,o,none⟩=false):=λw4 w5 v2 P hs4 a6 a4 O=>by
      have m6:=l8.out;have n3:=P.size;have a7:=hs4.of a6 a4 O;have h4:∀ b,b=H2\/b=H2+1->¬ cZ (w.heap.size+1) w.heap.size v' b:=λb hb q=>by
       rcases q with q|q|q
       .omega
       .omega
       .have:=j2.out b q.symm;omega
      have k1:w5.heap[H2]?=wr.heap[H2]?:=(O.block _ ω (h4 _ (.inl rfl))).trans (P.block _ ω);have k2:w5.heap[H2+1]?=wr.heap[H2+1]?:=(O.block _ ω (h4 _ (.inr rfl))).trans (P.block _ ω);obtain⟨r1,r2,r3⟩:=j5.out w5 k1 k2;have c2:=(a2.out.keep k1 k2).r;have g1:∀ g,v2.ownBlock=some g->g≠H2/\g≠H2+1:=λg hg=>by
       rcases a4 g hg with q|q
       .exact j2.out g q
       .omega
      have X:=a7.tl.1;refine⟨⟨a7.keep (S:=λb=>b=H2+1) (iN rfl) ω (λb hb=>ω) (λb hb q=>?_),r1,g1⟩,r2,r3⟩;subst q;rcases hb with hb|hb|hb|hb|hb|hb
      .omega
      .omega
      .exact(g1 _ hb).2 rfl
      .obtain⟨cs,e6⟩:=az a7.ar hb;exact aU e6 c2 Zr rfl
      .obtain⟨cs,e6⟩:=az a7.nr hb;exact aU e6 c2 Zr rfl
      .have:=k8.out _ hb;omega
     clear hm c6 hz D c9 E b2 p Y i0 c7 d5 u i5 e4;go_wp2_with (first|(go_at_call 130;refine(f4.out w4 h8.out).mono ?_;rintro e w5 ⟨rfl,v2,a6,a4,O⟩;obtain⟨p1,⟨y,p2⟩,p3⟩:=j0.out w4 w5 v2 g5.out h8.out a6 a4 O;have e7:Hid (SS w tb K (w5.setCell ⟨H2+1,c,none⟩ (eN fc)) v2 va vn (aq m z) (tk+1) ((d.take tk).map (·.ends)) l gs/\RB (w5.setCell ⟨H2+1,c,none⟩ (eN fc)) H2 (H2+1) q.w q.ends (rowP full (c+1))/\(∀ g,v2.ownBlock=some g->g≠H2/\g≠H2+1)):=p1;clear a6 a4 O p1)|(go_at_call 132;refine a8.mono ?_;rintro e w4 ⟨rfl,P⟩;have g5:Hid (Below wr.heap.size wr w4):=m3.out.trans (P.mono χ);have h8:Hid (SS w tb K w4 v' va vn m (tk+1) ((d.take tk).map (·.ends)) l gs):=B.out.below g5.out;clear P))
     go_roundw
     case rel=>exact⟨c+1,v2,ω,π,by rw[M.out];exact e7.out.1,e7.out.2.1,e7.out.2.2⟩
     case measure=>simp[intOf]<;>omega
    .have o8:¬(c:Int)<K:=ω;have h0:c=K:=ω;have b6:(rs.take c).map (bq s q)=rs.map (bq s q):=by rw[h0,HK.out,take_length]
     have u:=c3.out c hc;rw[b6] at B u;have Z:Hid (RB wr H2 (H2+1) q.w q.ends full):=by
      have:=Y;rw[h0,<-d9,ye] at this;exact this
     rw[<-g8.out] at a9;obtain⟨m,hm⟩:∃ m,m=ai d (rs.map (bq s q)):=⟨_,rfl⟩
     have j8:d <+: m:=by rw[hm];exact fj _ _
     rw[<-hm] at B a9 u;have U:=wN wr (w.heap.size+1) w.heap.size v' (m.map fZ.v) (tk+1) B.out.num;rw[length_map] at U;clear p Y b6 hm a2
     by_cases hlim:limit<m.length
     .have d8:(limit:Int)<m.length:=ω;have HQ:Hid (R=none):=by show _=_;rw[<-a9.out,Zi hlim]
      go_wp2_with (go_at_call 133;refine U.mono ?_;rintro e w9 ⟨rfl,d1⟩;obtain rfl:=d1.symm)
      simp only[Exit.jump];go_ret
      exact .inl ⟨HQ.out,rfl,B.out.ex⟩
     .have d8:¬(limit:Int)<m.length:=ω;have HQ:Hid (bG (bq s) rs limit f m (tk+1) (l++[full])=R):=by show _=_;rw[<-a9.out,Zh hlim]
      have e5:=B.out.c4;obtain⟨y0,y1,y2,y3,y4⟩:=q_ Z.out.q;obtain⟨iB,l9,l4,i4,j6⟩:=info_parts Tryz.infoB;obtain⟨iL,m0,l5,h9,f5⟩:=info_parts Tryz.infoLI;have i7:Hid (wr.ownsRow (w.heap.size+2) 4 1 va ((d.take tk).map (·.ends)).length (((d.take tk).map (·.ends)).map eB)):=B.out.ar;obtain⟨A,hA⟩:∃ A,A=(d.take tk).map (·.ends):=⟨_,rfl⟩
      have n9:A.length<=200:=by rw[hA];simp;omega
      rw[<-hA] at i7 B b3;have n6:gs.length<=200:=by rw[B.out.gl];omega
      have h3:Hid ((m.take (tk+1)).map (·.ends)=A++[q.ends]):=by
       show _=_;rw[<-b3.out];obtain⟨r,hr⟩:=j8;rw[<-hr,take_append_of_le_length ω]
      clear hA;go_wp2_with (go_at_call 133;refine U.mono ?_;rintro e w9 ⟨rfl,d1⟩;obtain rfl:=d1.symm)
      have D:Below wr.heap.size wr (wr.alloc (.cells #[.bool q.ends] 4)):=ZA;have m7:=cell_below D e5;have m5:=new_ne wr ⟨tb,4,none⟩ e5;have X:=B.out.tl.1;have m6:H2+2<=wr.heap.size:=(ZC Z.out.r)
      have n5:w.heap.size+2<=wr.heap.size:=ω;have c4:Hid (∀ {w4:World}{g k:Nat},w4.ownsRow (w.heap.size+2) 4 1 (.slice (some ⟨g,0,none⟩) (A.length+1) k) (A.length+1) (A.map eB++[eB q.ends])->((va.ownBlock=some g/\(wr.alloc (.cells #[.bool q.ends] 4)).drew.grownBy w4 (some g))\/(g=(wr.alloc (.cells #[.bool q.ends] 4)).heap.size/\(wr.alloc (.cells #[.bool q.ends] 4)).drew.grownBy w4 none))->(SS w tb K (w4.setCell ⟨tb,4,none⟩ (.slice (some ⟨g,0,none⟩) (A.length+1) k)) v' (.slice (some ⟨g,0,none⟩) (A.length+1) k) vn m (tk+1) (A++[q.ends]) l gs/\RB (w4.setCell ⟨tb,4,none⟩ (.slice (some ⟨g,0,none⟩) (A.length+1) k)) H2 (H2+1) q.w q.ends full)/\w4.cell? ⟨tb,4,none⟩=some va/\w4.frozen? ⟨tb,4,none⟩=false):=λ{w4 g k} ho hc=>by
       obtain⟨q1,q2,q3⟩:=B.out.acc1 (wa:=(wr.alloc (.cells #[.bool q.ends] 4)).drew) D.drew ho rfl hc;have hb:∀ b cs T,wr.heap[b]?=some (.cells cs T (0,0))->T≠4->w.heap.size<=b->(w4.setCell ⟨tb,4,none⟩ (.slice (some ⟨g,0,none⟩) (A.length+1) k)).heap[b]?=wr.heap[b]?:=λb cs T hbc hT hge=>by
        rw[ah _ _ _ _ ω];have k7:=(ZC hbc)
        refine(ct (wa:=(wr.alloc (.cells #[.bool q.ends] 4)).drew) rfl hc σ (λq=>?_)).trans (D.block b k7);obtain⟨ds,m2⟩:=az B.out.ar q;exact aU hbc m2 hT rfl
       exact⟨⟨q1,Z.out.keep (hb _ _ _ Z.out.q Zr ω) (hb _ _ _ Z.out.r Zr ω)⟩,q2,q3⟩
      go_region_law (refine cy _ (by rfl) (.tmp 68) (.tmp 71) 30 (by rfl) (w.heap.size+2) 4 iB _ 1 1 underlying30 l9 l4 i4 j6 (by rfl) Zr va A.length (A.map eB) (by rfl) (show ownsRow _ _ _ _ _ _ _ from Zm i7.out _) ⟨wr.heap.size,0,none⟩ 1 1 [.bool q.ends] (by rfl) (by rfl) (news_of_block (w:=wr.alloc (.cells #[.bool q.ends] 4)) (Za wr _)) Zt ω Zs ω σ _ (by rfl) ?_;intro g4 k4 w4 j7 c8 o9;obtain⟨a1,e0,f0⟩:=c4.out j7 c8;have HA:Hid (SS w tb K (w4.setCell ⟨tb,4,none⟩ (.slice (some ⟨g4,0,none⟩) (A.length+1) k4)) v' (.slice (some ⟨g4,0,none⟩) (A.length+1) k4) vn m (tk+1) (A++[q.ends]) l gs/\RB (w4.setCell ⟨tb,4,none⟩ (.slice (some ⟨g4,0,none⟩) (A.length+1) k4)) H2 (H2+1) q.w q.ends full):=a1;clear j7 c8 a1)
      all_goals (
       obtain⟨w5,f8⟩:∃ w5,w5=w4.setCell ⟨tb,4,none⟩ (.slice (some ⟨g4,0,none⟩) (A.length+1) k4):=⟨_,rfl⟩
       have H:=HA.out;rw[<-f8] at H ⊢;have k3:Hid (SS w tb K w5 v' (.slice (some ⟨g4,0,none⟩) (A.length+1) k4) vn m (tk+1) (A++[q.ends]) l gs):=H.1;have l2:Hid (RB w5 H2 (H2+1) q.w q.ends full):=H.2;have o2:=H.1.c5;have k9:Hid (w5.ownsRow (w.heap.size+2) 40 1 vn gs.length (gs.map (jH K))):=H.1.nr;have n7:w.heap.size+2<=w5.heap.size:=by have:=(ZC H.2.r);omega
       clear H f8 HA c4 e0 f0 m7 m5 e5 y0 y1 y2 y3 y4 D;go_wp2_with (at_builtin;refine aD _ rfl (.tmp 79) (.tmp 81) 31 rfl (w.heap.size+2) 40 iL _ 1 24 underlying31 m0 l5 h9 f5 rfl Zr vn gs.length (gs.map (jH K)) rfl (Zm k9.out _) ⟨w5.heap.size,0,none⟩ 1 1 [.slice (some ⟨H2+1,0,none⟩) K K] rfl rfl (news_of_block (Za w5 _)) Zt ω Zs ω σ _ rfl ?_;intro g6 k6 w6 g0 j4 o0;obtain⟨a1,e0,f0⟩:=k3.out.row1 (wa:=w5.alloc (.cells #[.slice (some ⟨H2+1,0,none⟩) K K] 40)) (q:=H2+1) l2.out.r ω d9 ZA g0 rfl j4;have HA:Hid (SS w tb K (w6.setCell ⟨tb,5,none⟩ (.slice (some ⟨g6,0,none⟩) (gs.length+1) k6)) v' (.slice (some ⟨g4,0,none⟩) (A.length+1) k4) (.slice (some ⟨g6,0,none⟩) (gs.length+1) k6) m (tk+1) (A++[q.ends]) (l++[full]) (gs++[H2+1])):=a1;clear g0 j4 a1)
       go_step3
       refine⟨rfl,(HJ.out _ _).2 ⟨⟨tk+1,m,l++[full],v',.slice (some ⟨g4,0,none⟩) (A.length+1) k4,.slice (some ⟨g6,0,none⟩) (gs.length+1) k6,gs++[H2+1],by rw[h3.out,<-HK.out];exact HA.out,u.1,u.2.1,ω,σ,by rw[show 202-(tk+1)=f by omega];exact HQ.out⟩,_,_,_,_,_,_,_,_,_,_,_,_,_,_,_,_,_,_,_,_,_,_,_,_,_,_,_,_,_,_,_,_,_,_,_,_,_,_,_,_,_,_,_,_,_,_,_,_,_,_,_,_,_,_,_,_,_,_,_,_,_,_,_,_,_,_,_,_,_,_,_,_,_,_,_,_,_,rfl⟩,?_⟩;rw[jK HA.out.num,jK m1.out]
       omega)
section
variable {w:World}{t:Tn}{va vn:Value}{w2 w0:World}{vb vo:Value}{bl:List UInt8}{olds:List Nat}{cls:List UInt8}
def mw.loads {na:Option Addr}{nc n K:Nat}{va vb:Value} (h:mw w t va (.slice na n nc) w2 w0 vb vo bl olds cls) (ht:iH n K t) (hbl:bl.length=n)  (hx:cd (λb=>b=w2.heap.size) w0 W) {i old:Nat} (hi:i<n) (ho:old<K) :
  ∃ b o b' o' c' g oo cc x,na=some ⟨b,o,none⟩/\W.cell? ⟨b,o+i,none⟩=some (.slice (some ⟨b',o',none⟩) K c')/\W.cell? ⟨b',o'+old,none⟩=some (.int .i64 ((x:Nat):Int))/\x<n/\vb=.slice (some ⟨g,oo,none⟩) n cc/\W.cell? ⟨g,oo+x,none⟩=some (fy (bl.getD x 0))/\x=(t.next.getD i []).getD old 0/\bl.getD x 0∈bl:=by
 obtain⟨-,h2,-,h4,-⟩:=h.keep hx;have a:i<t.next.length:=by rw[ht.nl];exact hi
 obtain⟨b,o,c,u,e1,c1,hu⟩:=h4.at (i:=i) (by rw[ie];exact a);rw[qJ t.next i a] at hu;obtain⟨f,k⟩:=ht.r _ (Zg a);obtain⟨b',o',c',e2,c2⟩:=hu.at (i:=old) (by simp[f,ho]);have d:old<(t.next[i]).length:=by rw[f];exact ho
 have e:=k _ (Zg d);obtain⟨g,oo,cc,e3,c3⟩:=h2.at (i:=(t.next[i])[old]) (by rw[hbl];exact e);simp only[Value.slice.injEq] at e1;have j:(t.next[i])[old]<bl.length:=by rw[hbl];exact e
 refine⟨b,o,b',o',c',g,oo,cc,(t.next[i])[old],e1.1,?_,?_,e,by rw[e3,hbl],?_,?_,?_⟩
 .rw[c1,e2];simp[f]
 .rw[c2];simp
 .rw[c3];simp[getD_eq_getElem?_getD,j]
 .simp[getD_eq_getElem?_getD,a,d]
 .simp[getD_eq_getElem?_getD,j]
def I7 {t:Tn} (ht:iH n K t) {cols:List (List UInt8)} (hc:cols.length=t.cls.length):∀ x∈fD t.cls cols,x<K:=by
 intro x hx;unfold fD at hx;obtain⟨d,a,rfl⟩:=mem_map.1 hx;have h1:d∈cols:=by simpa using aH.1 a
 have h2:bU cols d<t.cls.length:=by rw[<-hc];exact eZ h1
 rw[getD_eq_getElem?_getD,Zj h2,Option.getD_some];exact ht.ck _ (Zg h2)
end
def I8 (a:Act) (x0 x1 x2 x3 x4 x5 x6 x7:Value):Prop:=∃ u8 u9 u10 u11 u12 u13 u14 u15 u16 u17 u18 u19 u20 u21 u22 u23 u24 u25 u26 u27 u28 u29 u30 u31 u32 u33 u34 u35 u36 u37 u38 u39 u40 u41 u42 u43 u44 u45 u46 u47 u48 u49 u50 u51 u52 u53 u54 u55 u56 u57 u58 u59 u60 u61 u62 u63 u64 u65 u66 u67 u68 u69 u70 u71 u72 u73 u74 u75 u76 u77 u78 u79 u80 u81 u82 u83 u84 u85 u86 u87 u88 u89 u90,a={tmps:=#[x0,x1,x2,x3,x4,x5,x6,x7,u8,u9,u10,u11,u12,u13,u14,u15,u16,u17,u18,u19,u20,u21,u22,u23,u24,u25,u26,u27,u28,u29,u30,u31,u32,u33,u34,u35,u36,u37,u38,u39,u40,u41,u42,u43,u44,u45,u46,u47,u48,u49,u50,u51,u52,u53,u54,u55,u56,u57,u58,u59,u60,u61,u62,u63,u64,u65,u66,u67,u68,u69,u70,u71,u72,u73,u74,u75,u76,u77,u78,u79,u80,u81,u82,u83,u84,u85,u86,u87,u88,u89,u90],defers:=[]}
def Ce {x0 x1 x2 x3 x4 x5 x6 x7 u8 u9 u10 u11 u12 u13 u14 u15 u16 u17 u18 u19 u20 u21 u22 u23 u24 u25 u26 u27 u28 u29 u30 u31 u32 u33 u34 u35 u36 u37 u38 u39 u40 u41 u42 u43 u44 u45 u46 u47 u48 u49 u50 u51 u52 u53 u54 u55 u56 u57 u58 u59 u60 u61 u62 u63 u64 u65 u66 u67 u68 u69 u70 u71 u72 u73 u74 u75 u76 u77 u78 u79 u80 u81 u82 u83 u84 u85 u86 u87 u88 u89 u90:Value}:I8 {tmps:=#[x0,x1,x2,x3,x4,x5,x6,x7,u8,u9,u10,u11,u12,u13,u14,u15,u16,u17,u18,u19,u20,u21,u22,u23,u24,u25,u26,u27,u28,u29,u30,u31,u32,u33,u34,u35,u36,u37,u38,u39,u40,u41,u42,u43,u44,u45,u46,u47,u48,u49,u50,u51,u52,u53,u54,u55,u56,u57,u58,u59,u60,u61,u62,u63,u64,u65,u66,u67,u68,u69,u70,u71,u72,u73,u74,u75,u76,u77,u78,u79,u80,u81,u82,u83,u84,u85,u86,u87,u88,u89,u90],defers:=[]} x0 x1 x2 x3 x4 x5 x6 x7:=⟨_,_,_,_,_,_,_,_,_,_,_,_,_,_,_,_,_,_,_,_,_,_,_,_,_,_,_,_,_,_,_,_,_,_,_,_,_,_,_,_,_,_,_,_,_,_,_,_,_,_,_,_,_,_,_,_,_,_,_,_,_,_,_,_,_,_,_,_,_,_,_,_,_,_,_,_,_,_,_,_,_,_,_,rfl⟩
@[elab_as_elim] theorem I9 {a:Act}{x0 x1 x2 x3 x4 x5 x6 x7:Value}{P:Act->Prop} (h:I8 a x0 x1 x2 x3 x4 x5 x6 x7) (k:∀ u8 u9 u10 u11 u12 u13 u14 u15 u16 u17 u18 u19 u20 u21 u22 u23 u24 u25 u26 u27 u28 u29 u30 u31 u32 u33 u34 u35 u36 u37 u38 u39 u40 u41 u42 u43 u44 u45 u46 u47 u48 u49 u50 u51 u52 u53 u54 u55 u56 u57 u58 u59 u60 u61 u62 u63 u64 u65 u66 u67 u68 u69 u70 u71 u72 u73 u74 u75 u76 u77 u78 u79 u80 u81 u82 u83 u84 u85 u86 u87 u88 u89 u90,P {tmps:=#[x0,x1,x2,x3,x4,x5,x6,x7,u8,u9,u10,u11,u12,u13,u14,u15,u16,u17,u18,u19,u20,u21,u22,u23,u24,u25,u26,u27,u28,u29,u30,u31,u32,u33,u34,u35,u36,u37,u38,u39,u40,u41,u42,u43,u44,u45,u46,u47,u48,u49,u50,u51,u52,u53,u54,u55,u56,u57,u58,u59,u60,u61,u62,u63,u64,u65,u66,u67,u68,u69,u70,u71,u72,u73,u74,u75,u76,u77,u78,u79,u80,u81,u82,u83,u84,u85,u86,u87,u88,u89,u90],defers:=[]}):P a:=by
 obtain⟨u8,u9,u10,u11,u12,u13,u14,u15,u16,u17,u18,u19,u20,u21,u22,u23,u24,u25,u26,u27,u28,u29,u30,u31,u32,u33,u34,u35,u36,u37,u38,u39,u40,u41,u42,u43,u44,u45,u46,u47,u48,u49,u50,u51,u52,u53,u54,u55,u56,u57,u58,u59,u60,u61,u62,u63,u64,u65,u66,u67,u68,u69,u70,u71,u72,u73,u74,u75,u76,u77,u78,u79,u80,u81,u82,u83,u84,u85,u86,u87,u88,u89,u90,rfl⟩:=h;exact k _ _ _ _ _ _ _ _ _ _ _ _ _ _ _ _ _ _ _ _ _ _ _ _ _ _ _ _ _ _ _ _ _ _ _ _ _ _ _ _ _ _ _ _ _ _ _ _ _ _ _ _ _ _ _ _ _ _ _ _ _ _ _ _ _ _ _ _ _ _ _ _ _ _ _ _ _ _ _ _ _ _ _
end Go.Proofs.YtbjabpodkaokjaaGreatDoor

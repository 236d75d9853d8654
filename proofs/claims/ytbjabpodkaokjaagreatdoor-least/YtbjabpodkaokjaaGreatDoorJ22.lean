import Derived.Test.YtbjabpodkaokjaaGreatDoorJ21
import Derived.Test.YtbjabpodkaokjaaGreatDoorJ19
set_option linter.unusedVariables false
set_option linter.unusedSimpArgs false
set_option maxHeartbeats 4000000
set_option maxRecDepth 100000
namespace Go.Proofs.YtbjabpodkaokjaaGreatDoor
open Go.RowKit
theorem or_bit (x:W4) (n:Nat) (hn:n<64):x.or (bit1 n)=⟨x.x0 ||| 2 ^ n,x.x1,x.x2,x.x3⟩:=by simp[W4.or,bit1,hn]
theorem addS_any (w:World) (b off n:Nat) (x:W4) (hx:x.ok) (hn:n<64) (h:W4At w b off x) :
  Calls Tryz.prog 178 #[.pointer (some ⟨b,off,none⟩),.int .u8 n] w fun e w'=>e=.returned (.tuple #[])∧W4At w' b off (x.or (bit1 n))∧Fo b off w w':=by
 have h':=h
 obtain⟨c0,c1,c2,c3,fz⟩:=h
 obtain⟨m,hm0⟩:∃ m,n=m:=⟨n,rfl⟩
 have hd:(n:Int) / 64=0:=by omega
 have hm:(n:Int)%64=(m:Int):=by omega
 have hlt:m<64:=by omega
 have HW:Hid (bits BinOp.or IntKind.u64 (x.x0:Int) (IntKind.u64.wrap (2 ^ m))=((x.x0 ||| 2 ^ m:Nat):Int)):=or_u64 x.x0 m hx.l0 hlt
 have f0:=fz off
 have HM:Hid (n=m):=hm0
 rw[or_bit x n hn]
 clear hm0
 go_enter Tryz.func178,Tryz.ntmps178
 go_region
 refine bodyPost_end (results_none rfl _ _ _) rfl ?_
 rw[HW.out,HM.out]
 refine⟨rfl,⟨?_,?_,?_,?_,fun o=>?_⟩,((Fo.refl _ _ _).setCell _ (by omega) _).drew⟩
 ·simp[go_sem,c0]
 ·simp[go_sem,c1]
 ·simp[go_sem,c2]
 ·simp[go_sem,c3]
 ·simp[go_sem,fz]
theorem grown_blk {wa w4:World}{v:Value}{g H:Nat} (hH:wa.heap.size=H) (h:(v.ownBlock=some g∧wa.grownBy w4 (some g))∨(g=H∧wa.grownBy w4 none)) {b:Nat} (hb:b<wa.heap.size) (hn:v.ownBlock≠some b):w4.heap[b]?=wa.heap[b]?:=by
 rcases h with⟨h1,h2⟩|⟨h1,h2⟩
 ·exact h2.block b hb (by rw[←h1];exact fun e=>hn e.symm)
 ·exact h2.block b hb (by simp)
theorem grown_env {wa w4:World}{v:Value}{g H:Nat} (h:(v.ownBlock=some g∧wa.grownBy w4 (some g))∨(g=H∧wa.grownBy w4 none)):w4.os=wa.os∧w4.tape=wa.tape∧w4.output=wa.output∧wa.heap.size≤w4.heap.size:=by
 rcases h with⟨h1,h2⟩|⟨h1,h2⟩
 ·exact⟨h2.os,h2.tape,h2.output,h2.size⟩
 ·exact⟨h2.os,h2.tape,h2.output,h2.size⟩
theorem ExAt.addB {wa w4:World}{sb g k H:Nat}{vb vf:Value}{e:Ex}{ws:List W4}{x:W4}{S:Nat→Bool} (h:ExAt wa sb vb vf e) (hw:FsAt 226 wa (sb+1) vb ws) (hl:ws.length=e.bs.length)
  (hd:∀ i (h:i<ws.length) (h2:i<e.bs.length),Sx.Wd ws[i].x0 ws[i].x1 ws[i].x2 ws[i].x3 e.bs[i]) (hS:Sx.Wd x.x0 x.x1 x.x2 x.x3 S)
  (ho:w4.ownsRow (sb+1) 226 4 (.slice (some ⟨g,0,none⟩) (ws.length+1) k) (ws.length+1) (ws.flatMap W4.cs++x.cs)) (hH:wa.heap.size=H)
  (hc:(vb.ownBlock=some g∧wa.grownBy w4 (some g))∨(g=H∧wa.grownBy w4 none)) :
  ExAt (w4.setCell ⟨sb,0,none⟩ (.slice (some ⟨g,0,none⟩) (ws.length+1) k)) sb (.slice (some ⟨g,0,none⟩) (ws.length+1) k) vf ⟨e.bs++[S],e.fs⟩ ∧
  Grw sb wa vb vf (w4.setCell ⟨sb,0,none⟩ (.slice (some ⟨g,0,none⟩) (ws.length+1) k)) (.slice (some ⟨g,0,none⟩) (ws.length+1) k) vf∧w4.cell? ⟨sb,0,none⟩=some vb∧w4.frozen? ⟨sb,0,none⟩=false:=by
 have hsb:=(h.lt (.inl rfl)).2
 have hgs:sb+1≤g:=by
  rcases ho.2 with⟨q,_⟩|⟨g',cap,cur,q,hb,_⟩
  ·simp at q
  ·simp at q;omega
 have hnb:vb.ownBlock≠some sb:=fun q=>by have:=(hw.lt q).1;omega
 have hsbE:w4.heap[sb]?=wa.heap[sb]?:=grown_blk hH hc hsb hnb
 obtain⟨g1,g2,g3,g4⟩:=grown_env hc
 have k0:w4.cell? ⟨sb,0,none⟩=some vb:=by rw[←h.c0];simp[World.cell?,hsbE]
 have k1:w4.cell? ⟨sb,1,none⟩=some vf:=by rw[←h.c1];simp[World.cell?,hsbE]
 have kf:∀ o,w4.frozen? ⟨sb,o,none⟩=false:=fun o=>by rw[←h.fz o];simp[World.frozen?,hsbE]
 have hfb:∀ b,vf.ownBlock=some b→w4.heap[b]?=wa.heap[b]?:=fun b hb=>grown_blk hH hc (h.lt (.inr (.inr hb))).2 (fun q=>h.ne q hb)
 refine⟨⟨?_,?_,fun o=>?_,⟨ws++[x],?_,?_,?_⟩,?_⟩,⟨⟨g1,g2,g3,?_,fun b hb hS'=>?_⟩,fun b hb=>?_,fun _ o ho=>?_⟩,k0,kf 0⟩
 ·exact World.cell?_setCell_same' _ _ _ (by rw[k0];rfl)
 ·simp[go_sem,k1]
 ·simp[go_sem,kf]
 ·have:FsAt 226 w4 (sb+1) (.slice (some ⟨g,0,none⟩) (ws.length+1) k) (ws++[x]):=by
   unfold FsAt
   simpa using ho
  exact this.blk (fun b hb=>set_blk _ _ _ _ (by simp[Value.ownBlock] at hb;omega))
 ·simp[hl]
 ·intro i h1 h2
  rcases Nat.lt_or_ge i ws.length with q|q
  ·rw[List.getElem_append_left q,List.getElem_append_left (by omega)]
   exact hd i q (by omega)
  ·have e1:i=ws.length:=by simp at h1;omega
   subst e1
   rw[List.getElem_append_right (by omega),List.getElem_append_right (by omega)]
   simpa using hS
 ·exact h.fs.blk (fun b hb=>(set_blk _ _ _ _ (by have:=(h.fs.lt hb).1;omega)).trans (hfb b hb))
 ·simp[World.setCell];exact g4
 ·rw[set_blk _ _ _ _ (fun q=>hS' (.inl q))]
  exact grown_blk hH hc hb (fun q=>hS' (.inr (.inl q)))
 ·rcases hb with hb|hb|hb
  ·exact .inl (.inl hb)
  ·simp[Value.ownBlock] at hb
   subst hb
   rcases hc with⟨q,_⟩|⟨q,_⟩
   ·exact .inl (.inr (.inl q))
   ·exact .inr (by omega)
  ·exact .inl (.inr (.inr hb))
 ·rw[show(w4.setCell ⟨sb,0,none⟩ (.slice (some ⟨g,0,none⟩) (ws.length+1) k)).cell? ⟨sb,o,none⟩=w4.cell? ⟨sb,o,none⟩ by simp[go_sem,show ¬(0=o) by omega,show ¬(o=0) by omega]]
  exact cell_same hsbE o
theorem ExAt.addF {wa w4:World}{sb g k H:Nat}{vb vf:Value}{e:Ex}{x:W4} (h:ExAt wa sb vb vf e)
  (ho:w4.ownsRow (sb+1) 150 4 (.slice (some ⟨g,0,none⟩) (e.fs.length+1) k) (e.fs.length+1) (e.fs.flatMap W4.cs++x.cs)) (hH:wa.heap.size=H)
  (hc:(vf.ownBlock=some g∧wa.grownBy w4 (some g))∨(g=H∧wa.grownBy w4 none)) :
  ExAt (w4.setCell ⟨sb,1,none⟩ (.slice (some ⟨g,0,none⟩) (e.fs.length+1) k)) sb vb (.slice (some ⟨g,0,none⟩) (e.fs.length+1) k) ⟨e.bs,e.fs++[x]⟩ ∧
  Grw sb wa vb vf (w4.setCell ⟨sb,1,none⟩ (.slice (some ⟨g,0,none⟩) (e.fs.length+1) k)) vb (.slice (some ⟨g,0,none⟩) (e.fs.length+1) k)∧w4.cell? ⟨sb,1,none⟩=some vf∧w4.frozen? ⟨sb,1,none⟩=false:=by
 have hsb:=(h.lt (.inl rfl)).2
 have hgs:sb+1≤g:=by
  rcases ho.2 with⟨q,_⟩|⟨g',cap,cur,q,hb,_⟩
  ·simp at q
  ·simp at q;omega
 have hnf:vf.ownBlock≠some sb:=fun q=>by have:=(h.fs.lt q).1;omega
 have hsbE:w4.heap[sb]?=wa.heap[sb]?:=grown_blk hH hc hsb hnf
 obtain⟨g1,g2,g3,g4⟩:=grown_env hc
 have k0:w4.cell? ⟨sb,0,none⟩=some vb:=by rw[←h.c0];simp[World.cell?,hsbE]
 have k1:w4.cell? ⟨sb,1,none⟩=some vf:=by rw[←h.c1];simp[World.cell?,hsbE]
 have kf:∀ o,w4.frozen? ⟨sb,o,none⟩=false:=fun o=>by rw[←h.fz o];simp[World.frozen?,hsbE]
 obtain⟨ws,hws,hl,hd⟩:=h.bs
 have hbb:∀ b,vb.ownBlock=some b→w4.heap[b]?=wa.heap[b]?:=fun b hb=>grown_blk hH hc (h.lt (.inr (.inl hb))).2 (fun q=>h.ne hb q)
 refine⟨⟨?_,?_,fun o=>?_,⟨ws,?_,hl,hd⟩,?_⟩,⟨⟨g1,g2,g3,?_,fun b hb hS'=>?_⟩,fun b hb=>?_,fun _ o ho=>?_⟩,k1,kf 1⟩
 ·simp[go_sem,k0]
 ·exact World.cell?_setCell_same' _ _ _ (by rw[k1];rfl)
 ·simp[go_sem,kf]
 ·exact hws.blk (fun b hb=>(set_blk _ _ _ _ (by have:=(hws.lt hb).1;omega)).trans (hbb b hb))
 ·have:FsAt 150 w4 (sb+1) (.slice (some ⟨g,0,none⟩) (e.fs.length+1) k) (e.fs++[x]):=by
   unfold FsAt
   simpa using ho
  exact this.blk (fun b hb=>set_blk _ _ _ _ (by simp[Value.ownBlock] at hb;omega))
 ·simp[World.setCell];exact g4
 ·rw[set_blk _ _ _ _ (fun q=>hS' (.inl q))]
  exact grown_blk hH hc hb (fun q=>hS' (.inr (.inr q)))
 ·rcases hb with hb|hb|hb
  ·exact .inl (.inl hb)
  ·exact .inl (.inr (.inl hb))
  ·simp[Value.ownBlock] at hb
   subst hb
   rcases hc with⟨q,_⟩|⟨q,_⟩
   ·exact .inl (.inr (.inr q))
   ·exact .inr (by omega)
 ·rw[show(w4.setCell ⟨sb,1,none⟩ (.slice (some ⟨g,0,none⟩) (e.fs.length+1) k)).cell? ⟨sb,o,none⟩=w4.cell? ⟨sb,o,none⟩ by simp[go_sem,show ¬(1=o) by omega,show ¬(o=1) by omega]]
  exact cell_same hsbE o
theorem FsAt.form {te:TypeId}{w:World}{base:Nat}{v:Value}{fs:List W4} (h:FsAt te w base v fs):∃ a c,v=.slice a fs.length c:=by
 rcases h.2 with⟨rfl,hn⟩|⟨g,cap,cur,rfl,_⟩
 ·exact⟨none,0,by rw[hn]⟩
 ·exact⟨_,_,rfl⟩
theorem Tryz.infoSb:(Tryz.prog.info? 226).map (fun i=>(i.zero,i.size,i.bytes))=some (some (.agg #[.int .u64 0,.int .u64 0,.int .u64 0,.int .u64 0]),4,32):=by kernel_rfl
theorem Tryz.infoSp:(Tryz.prog.info? 150).map (fun i=>(i.zero,i.size,i.bytes))=some (some (.agg #[.int .u64 0,.int .u64 0,.int .u64 0,.int .u64 0]),4,32):=by kernel_rfl
structure AB (W:World) (H:Nat) (gv:Value) (x s:W4):Prop where
 k0:W.heap[H]?=some (.cells #[gv,.int .u64 (x.x0:Int),.int .u64 (x.x1:Int),.int .u64 (x.x2:Int),.int .u64 (x.x3:Int)] 228)
 k1:W.heap[H+1]?=some (.cells zC 152)
 k2:W4At W (H+2) 0 s
theorem AB.keep {W W':World}{H:Nat}{gv:Value}{x s:W4} (h:AB W H gv x s) (k:∀ j,H≤j→j<H+3→W'.heap[j]?=W.heap[j]?):AB W' H gv x s:=by
 have k2:=k (H+2) (by omega) (by omega)
 refine⟨(k _ (by omega) (by omega)).trans h.k0,(k _ (by omega) (by omega)).trans h.k1,?_,?_,?_,?_,fun o=>?_⟩
 ·rw[←h.k2.c0];simp[World.cell?,k2]
 ·rw[←h.k2.c1];simp[World.cell?,k2]
 ·rw[←h.k2.c2];simp[World.cell?,k2]
 ·rw[←h.k2.c3];simp[World.cell?,k2]
 ·rw[←h.k2.fz o];simp[World.frozen?,k2]
theorem AB.lt {W:World}{H:Nat}{gv:Value}{x s:W4} (h:AB W H gv x s):H+2<W.heap.size:=cell_lt h.k2.c0
theorem atom_new (w:World) (sb:Nat) (vb vf:Value) (e:Ex) (ga:Option Addr) (gc:Nat) (x:W4) (S:Nat→Bool) (n:Nat) (h1:1<sb) (h:ExAt w sb vb vf e) (hn:n<64) (he:ExOk n e) (hS:Sx.Wd x.x0 x.x1 x.x2 x.x3 S) :
  Calls Tryz.prog 198 #[.pointer (some ⟨sb,0,none⟩),.agg #[.slice ga 0 gc,.int .u64 (x.x0:Int),.int .u64 (x.x1:Int),.int .u64 (x.x2:Int),.int .u64 (x.x3:Int)]] w fun r w'=>r=.returned (pcV (newM S e).1)∧∃ vb' vf',ExAt w' sb vb' vf' (newM S e).2∧Grw sb w vb vf w' vb' vf':=by
 obtain⟨w2,hw2⟩:∃ w2,w2=((w.alloc (.cells #[.slice ga 0 gc,.int .u64 (x.x0:Int),.int .u64 (x.x1:Int),.int .u64 (x.x2:Int),.int .u64 (x.x3:Int)] 228)).alloc (.cells zC 152)).alloc (.cells #[.int .u64 0,.int .u64 0,.int .u64 0,.int .u64 0] 150):=⟨_,rfl⟩
 have hb2:Below w.heap.size w w2:=by rw[hw2];exact(((Below.refl _ _).alloc (Nat.le_refl _) _).alloc (by simp) _).alloc (by simp;omega) _
 have hz2:w2.heap.size=w.heap.size+3:=by rw[hw2];simp
 have m2:w2.heap[w.heap.size+2]?=some (.cells #[.int .u64 0,.int .u64 0,.int .u64 0,.int .u64 0] 150):=by rw[hw2];exact al2 w _ _ _
 have hj2:AB w2 w.heap.size (.slice ga 0 gc) x W4.none:=by
  refine⟨by rw[hw2];exact al0 w _ _ _,by rw[hw2];exact al1 w _ _ _,?_,?_,?_,?_,fun o=>?_⟩<;>simp[World.cell?,World.frozen?,m2,W4.none]
 have hx2:ExAt w2 sb vb vf e:=h.below hb2
 have hnb:W4.none.or (bit1 n)=bit1 n:=by simp[W4.or,W4.none]
 have hadd:=addS_any w2 (w.heap.size+2) 0 n W4.none ⟨by decide,by decide,by decide,by decide⟩ hn hj2.k2
 rw[hnb] at hadd
 clear hnb
 have hnI:(n:Int)<64:=by omega
 obtain⟨ws,hws,hwl,hwd⟩:=hx2.bs
 obtain⟨ba0,bc0,hvb⟩:=hws.form
 have hwn:ws.length=n:=hwl.trans he.b
 rw[hwn] at hvb
 have c0:=hx2.c0
 rw[hvb] at c0
 have HW:Hid (w2=((w.alloc (.cells #[.slice ga 0 gc,.int .u64 (x.x0:Int),.int .u64 (x.x1:Int),.int .u64 (x.x2:Int),.int .u64 (x.x3:Int)] 228)).alloc (.cells zC 152)).alloc (.cells #[.int .u64 0,.int .u64 0,.int .u64 0,.int .u64 0] 150)):=hw2
 have HJ:Hid (AB w2 w.heap.size (.slice ga 0 gc) x W4.none):=hj2
 have HX:Hid (ExAt w2 sb vb vf e):=hx2
 have HVB:Hid (vb=.slice ba0 n bc0):=hvb
 have HB:Hid (Below w.heap.size w w2):=hb2
 have hsl:=(h.lt (.inl rfl)).2
 have HLT:Hid (∀ b,EFoot sb vb vf b→b<w.heap.size):=fun b hb=>(h.lt hb).2
 have HWS:Hid (∀ w3:World,(∀ b,EFoot sb vb vf b→w3.heap[b]?=w2.heap[b]?)→w3.ownsRow (sb+1) 226 4 vb ws.length (ws.flatMap W4.cs)):=fun w3 k=>own_blk hws (fun b hb=>k b (.inr (.inl hb)))
 have HWL:Hid (ws.length=e.bs.length):=hwl
 have HWD:Hid (∀ i (h:i<ws.length) (h2:i<e.bs.length),Sx.Wd ws[i].x0 ws[i].x1 ws[i].x2 ws[i].x3 e.bs[i]):=hwd
 have HE:Hid (ExOk n e):=he
 have hwn':ws.length<64:=by omega
 have hfn':e.fs.length<64:=by rw[he.f];exact hn
 have HR:Hid ((newM S e).1=⟨bit1 n,bit1 n,false⟩∧(newM S e).2=⟨e.bs++[S],e.fs++[⟨0,0,0,0⟩]⟩):=by
  refine⟨?_,rfl⟩
  show(⟨bit1 e.bs.length,bit1 e.bs.length,false⟩:Pc)=_
  rw[he.b]
 clear hw2 hj2 hx2 h hb2 m2 hvb hwl hwd hwn hws he
 have c0':(((w.alloc (.cells #[.slice ga 0 gc,.int .u64 (x.x0:Int),.int .u64 (x.x1:Int),.int .u64 (x.x2:Int),.int .u64 (x.x3:Int)] 228)).alloc (.cells zC 152)).alloc (.cells #[.int .u64 0,.int .u64 0,.int .u64 0,.int .u64 0] 150)).cell? ⟨sb,0,none⟩=some (.slice ba0 n bc0):=by rw[←HW.out];exact c0
 go_enter Tryz.func198,Tryz.ntmps198
 go_wp2_with (go_at_call 178;rw[←HW.out];refine hadd.mono ?_;rintro r w3 ⟨rfl,hx3,hf3⟩;have hb3:Below (w.heap.size+2) w2 w3:=hf3.below (Nat.le_refl _) (by omega);have HX3B:Hid (∀ b,EFoot sb vb vf b→w3.heap[b]?=w2.heap[b]?):=(fun b hb=>hb3.block b (by have:=HLT.out b hb;omega));have HX3:Hid (ExAt w3 sb vb vf e):=HX.out.keep (fun b hb=>hb3.block b (by have:=HLT.out b hb;omega));have HJ3:Hid (AB w3 w.heap.size (.slice ga 0 gc) x (bit1 n)):=⟨(hb3.block _ (by omega)).trans HJ.out.k0,(hb3.block _ (by omega)).trans HJ.out.k1,hx3⟩;have HB3:Hid (Below w.heap.size w w3):=HB.out.trans (hb3.mono (by omega));clear hx3 hf3 hb3)
 obtain⟨i0,hi0,hz0,hz1,hz2'⟩:=info_parts Tryz.infoSb
 obtain⟨i1,hi1,hu0,hu1,hu2⟩:=info_parts Tryz.infoSp
 have d0:=HX3.out.c0
 obtain⟨y0,y1,y2,y3,y4⟩:=box5 HJ3.out.k0
 have hal:Below w3.heap.size w3 (w3.alloc (.cells #[.int .u64 (x.x0:Int),.int .u64 (x.x1:Int),.int .u64 (x.x2:Int),.int .u64 (x.x3:Int)] 226)):=(Below.refl _ _).alloc (Nat.le_refl _) _
 have d0n:=cell_below hal d0
 have d0e:=World.new_ne w3 ⟨sb,0,none⟩ d0
 have HO:Hid (w3.ownsRow (sb+1) 226 4 vb ws.length (ws.flatMap W4.cs)):=HWS.out _ HX3B.out
 have hsz3:sb+1≤w3.heap.size:=by have:=HJ3.out.lt;omega
 have HADD:Hid (∀ {w4:World}{g k:Nat},w4.ownsRow (sb+1) 226 4 (.slice (some ⟨g,0,none⟩) (ws.length+1) k) (ws.length+1) (ws.flatMap W4.cs++x.cs) →
   ((vb.ownBlock=some g∧(w3.alloc (.cells #[.int .u64 (x.x0:Int),.int .u64 (x.x1:Int),.int .u64 (x.x2:Int),.int .u64 (x.x3:Int)] 226)).drew.grownBy w4 (some g))∨(g=(w3.alloc (.cells #[.int .u64 (x.x0:Int),.int .u64 (x.x1:Int),.int .u64 (x.x2:Int),.int .u64 (x.x3:Int)] 226)).heap.size∧(w3.alloc (.cells #[.int .u64 (x.x0:Int),.int .u64 (x.x1:Int),.int .u64 (x.x2:Int),.int .u64 (x.x3:Int)] 226)).drew.grownBy w4 none)) →
   (ExAt (w4.setCell ⟨sb,0,none⟩ (.slice (some ⟨g,0,none⟩) (ws.length+1) k)) sb (.slice (some ⟨g,0,none⟩) (ws.length+1) k) vf ⟨e.bs++[S],e.fs⟩∧Grw sb w vb vf (w4.setCell ⟨sb,0,none⟩ (.slice (some ⟨g,0,none⟩) (ws.length+1) k)) (.slice (some ⟨g,0,none⟩) (ws.length+1) k) vf∧AB (w4.setCell ⟨sb,0,none⟩ (.slice (some ⟨g,0,none⟩) (ws.length+1) k)) w.heap.size (.slice ga 0 gc) x (bit1 n)∧(∀ b,EFoot sb (.slice (some ⟨g,0,none⟩) (ws.length+1) k) vf b→b<w.heap.size∨w.heap.size+3≤b))∧w4.cell? ⟨sb,0,none⟩=some vb∧w4.frozen? ⟨sb,0,none⟩=false):=fun {w4 g k} ho hc=>by
  have hwa:Below w3.heap.size w3 (w3.alloc (.cells #[.int .u64 (x.x0:Int),.int .u64 (x.x1:Int),.int .u64 (x.x2:Int),.int .u64 (x.x3:Int)] 226)).drew:=hal.drew
  obtain⟨q1,q2,q3,q4⟩:=ExAt.addB (wa:=(w3.alloc (.cells #[.int .u64 (x.x0:Int),.int .u64 (x.x1:Int),.int .u64 (x.x2:Int),.int .u64 (x.x3:Int)] 226)).drew) (HX3.out.below hwa) (HO.out |> fun q=>own_blk q (fun b hb=>hwa.block b (own_lt q hb))) HWL.out HWD.out hS ho rfl hc
  refine⟨⟨q1,(Grw.of_below (HB3.out.trans (hwa.mono HB3.out.size))).trans q2,?_,fun b hb=>?_⟩,q3,q4⟩
  rotate_left
  ·rcases q2.new b hb with q|q
   ·exact .inl (HLT.out b q)
   ·exact .inr (by have:=hwa.size;have:=HJ3.out.lt;omega)
  refine HJ3.out.keep (fun j h1 h2=>?_)
  rw[q2.exc.block j (by have:=hwa.size;have:=HJ3.out.lt;omega) (fun q=>by have:=HLT.out j q;omega)]
  exact hwa.block j (by have:=HJ3.out.lt;omega)
 go_region_law (refine step_append_str _ (by rfl) (.tmp 25) (.tmp 28) 143 (by rfl) (sb+1) 226 i0 _ 4 32 Tryz.underlying143 hi0 hz0 hz1 hz2' (by rfl) (by decide) vb ws.length (ws.flatMap W4.cs) (by rfl) (show World.ownsRow _ _ _ _ _ _ _ from World.ownsRow.alloc HO.out _) ⟨w3.heap.size,0,none⟩ 1 1 x.cs (by rfl) (by rfl) (World.news_of_block (w:=w3.alloc (.cells #[.int .u64 (x.x0:Int),.int .u64 (x.x1:Int),.int .u64 (x.x2:Int),.int .u64 (x.x3:Int)] 226)) (heap_alloc_new w3 _)) (by simp[Value.oneCell',W4.cs]) (by omega) (by unfold maxLen;omega) (by omega) (by simp;omega) _ (by rfl) ?_;intro g4 k4 w4 ho4 hc4 hl4;obtain⟨a1,e0,f0⟩:=HADD.out ho4 hc4;have HA:Hid (ExAt (w4.setCell ⟨sb,0,none⟩ (.slice (some ⟨g4,0,none⟩) (ws.length+1) k4)) sb (.slice (some ⟨g4,0,none⟩) (ws.length+1) k4) vf ⟨e.bs++[S],e.fs⟩∧Grw sb w vb vf (w4.setCell ⟨sb,0,none⟩ (.slice (some ⟨g4,0,none⟩) (ws.length+1) k4)) (.slice (some ⟨g4,0,none⟩) (ws.length+1) k4) vf∧AB (w4.setCell ⟨sb,0,none⟩ (.slice (some ⟨g4,0,none⟩) (ws.length+1) k4)) w.heap.size (.slice ga 0 gc) x (bit1 n)∧(∀ b,EFoot sb (.slice (some ⟨g4,0,none⟩) (ws.length+1) k4) vf b→b<w.heap.size∨w.heap.size+3≤b)):=a1;clear ho4 hc4 a1)
 all_goals (
  obtain⟨w5,hw5⟩:∃ w5,w5=w4.setCell ⟨sb,0,none⟩ (.slice (some ⟨g4,0,none⟩) (ws.length+1) k4):=⟨_,rfl⟩
  have HA5:=HA.out
  rw[←hw5] at HA5 ⊢
  have HX5:Hid (ExAt w5 sb (.slice (some ⟨g4,0,none⟩) (ws.length+1) k4) vf ⟨e.bs++[S],e.fs⟩):=HA5.1
  have HG5:Hid (Grw sb w vb vf w5 (.slice (some ⟨g4,0,none⟩) (ws.length+1) k4) vf):=HA5.2.1
  have HJ5:Hid (AB w5 w.heap.size (.slice ga 0 gc) x (bit1 n)):=HA5.2.2.1
  have d1:=HX5.out.c1
  have HO5:Hid (w5.ownsRow (sb+1) 150 4 vf e.fs.length (e.fs.flatMap W4.cs)):=HX5.out.fs
  have hsz5:sb+1≤w5.heap.size:=by have:=HJ5.out.lt;omega
  have HLT5:Hid (∀ b,EFoot sb (.slice (some ⟨g4,0,none⟩) (ws.length+1) k4) vf b→b<w.heap.size∨w.heap.size+3≤b):=HA5.2.2.2
  have hne1:¬ w.heap.size+1=sb:=by omega
  have hne2:¬ w.heap.size+1+1=sb:=by omega
  have hne3:¬ sb=w.heap.size+1:=by omega
  have hne4:¬ sb=w.heap.size+1+1:=by omega
  clear HA HA5 hw5 y0 y1 y2 y3 y4 d0 d0n d0e e0 f0 hal c0 c0'
  go_wp2_with (at_builtin;refine wpList_append_str _ rfl (.tmp 36) (.tmp 38) 144 rfl (sb+1) 150 i1 _ 4 32 Tryz.underlying144 hi1 hu0 hu1 hu2 rfl (by decide) vf e.fs.length (e.fs.flatMap W4.cs) rfl (World.ownsRow.alloc HO5.out _) ⟨w5.heap.size,0,none⟩ 1 1 [.int .u64 0,.int .u64 0,.int .u64 0,.int .u64 0] rfl rfl (World.news_of_block (heap_alloc_new w5 _)) (by simp[Value.oneCell']) (by omega) (by unfold maxLen;omega) (by omega) (by simp;omega) _ rfl ?_;intro g5 k5 w6 ho5 hc5 hl5;have hwb:Below w5.heap.size w5 (w5.alloc (.cells #[.int .u64 0,.int .u64 0,.int .u64 0,.int .u64 0] 150)):=(Below.refl _ _).alloc (Nat.le_refl _) _;obtain⟨q1,q2,q3,q4⟩:=ExAt.addF (x:=⟨0,0,0,0⟩) (HX5.out.below hwb) ho5 rfl hc5;have HX6:Hid (ExAt (w6.setCell ⟨sb,1,none⟩ (.slice (some ⟨g5,0,none⟩) (e.fs.length+1) k5)) sb (.slice (some ⟨g4,0,none⟩) (ws.length+1) k4) (.slice (some ⟨g5,0,none⟩) (e.fs.length+1) k5) ⟨e.bs++[S],e.fs++[⟨0,0,0,0⟩]⟩):=q1;have HG6:Hid (Grw sb w vb vf (w6.setCell ⟨sb,1,none⟩ (.slice (some ⟨g5,0,none⟩) (e.fs.length+1) k5)) (.slice (some ⟨g4,0,none⟩) (ws.length+1) k4) (.slice (some ⟨g5,0,none⟩) (e.fs.length+1) k5)):=HG5.out.trans ((Grw.of_below hwb).trans q2);have HN6:Hid (∀ b,EFoot sb (.slice (some ⟨g4,0,none⟩) (ws.length+1) k4) (.slice (some ⟨g5,0,none⟩) (e.fs.length+1) k5) b→b<w.heap.size∨w.heap.size+3≤b):=(fun b hb=>(by rcases q2.new b hb with q|q;exact HLT5.out b q;exact .inr (by have:=hwb.size;have:=HJ5.out.lt;omega)));have HJ6:Hid (AB w6 w.heap.size (.slice ga 0 gc) x (bit1 n)):=HJ5.out.keep (fun j h1 h2=>(grown_blk rfl hc5 (by have:=hwb.size;have:=HJ5.out.lt;omega) (fun q=>by rcases HLT5.out j (.inr (.inr q)) with q'|q'<;>omega)).trans (hwb.block j (by have:=HJ5.out.lt;omega)));obtain⟨z0,z1,z2,z3,z4,z5,z6,z7,z8⟩:=box9z HJ6.out.k1;have zf:∀ o,w6.frozen? ⟨w.heap.size+1,o,none⟩=false:=(fun o=>by simp[World.frozen?,HJ6.out.k1]);obtain⟨s0,s1,s2,s3,-⟩:=HJ6.out.k2;clear ho5 hc5 hl5 hwb q1 q2)
  obtain⟨w7,hw7⟩:∃ w7,w7=w6.setCell ⟨sb,1,none⟩ (.slice (some ⟨g5,0,none⟩) (e.fs.length+1) k5):=⟨_,rfl⟩
  have hx7:=HX6.out
  have hg7:=HG6.out
  have hk7:w7.heap[w.heap.size+1]?=some (.cells zC 152):=by rw[hw7,set_blk _ _ _ _ hne1];exact HJ6.out.k1
  rw[←hw7] at hx7 hg7 ⊢
  obtain⟨W,hW⟩:∃ W,W=S9 w7 (w.heap.size+1) ⟨bit1 n,bit1 n,false⟩:=⟨_,rfl⟩
  have hW2:=hW
  simp only[S9] at hW2
  rw[←hW2]
  have hq:W.heap[w.heap.size+1]?=some (.cells (pcC ⟨bit1 n,bit1 n,false⟩) 152):=by rw[hW];exact S9_own _ hk7
  obtain⟨r0,r1,r2,r3,r4,r5,r6,r7,r8⟩:=box9 hq
  refine bodyPost_ret (v:=pcV ⟨bit1 n,bit1 n,false⟩) (by simp[results,Tryz.results198,go_sem,r0,r1,r2,r3,r4,r5,r6,r7,r8]) rfl ?_
  rw[HR.out.1,HR.out.2]
  refine⟨rfl,(.slice (some ⟨g4,0,none⟩) (ws.length+1) k4),(.slice (some ⟨g5,0,none⟩) (e.fs.length+1) k5),?_,?_⟩
  ·rw[hW]
   exact ExAt.put hx7 (fun q=>by rcases HN6.out _ q with q'|q'<;>omega) _
  ·rw[hW]
   exact Grw.put hg7 (by omega) _)
open Sx (Prt Cnt)
theorem repC_form {w:World}{S:Nat→Prop}{ps:List Prt}{v:Value} (h:Sx.RepC w S ps v):∃ a c,v=.slice a ps.length c∧ps.length≤maxLen:=by
 obtain⟨css,⟨_,hr⟩,_⟩:=h
 rcases hr with⟨rfl,hn⟩|⟨g,cap,cur,rfl,_,_,h1,h2,_⟩
 ·exact⟨none,0,by rw[hn],by omega⟩
 ·exact⟨_,_,rfl,by omega⟩
theorem repCs_form {w:World}{S:Nat→Prop}{cs:List (List Prt)}{v:Value} (h:Sx.RepCs w S cs v):∃ a c,v=.slice a cs.length c∧cs.length≤maxLen:=by
 obtain⟨vs,⟨_,hr⟩,_⟩:=h
 rcases hr with⟨rfl,hn⟩|⟨g,cap,cur,rfl,_,_,h1,h2,_⟩
 ·exact⟨none,0,by rw[hn],by omega⟩
 ·exact⟨_,_,rfl,by omega⟩
theorem repCs_at {w:World}{S:Nat→Prop}{cs:List (List Prt)}{a:Option Addr}{cap:Nat} (h:Sx.RepCs w S cs (.slice a cs.length cap)) {i:Nat} (hi:i<cs.length) :
  ∃ g b c,a=some ⟨g,0,none⟩∧S g∧w.cell? ⟨g,i,none⟩=some (.slice b cs[i].length c)∧Sx.RepC w S cs[i] (.slice b cs[i].length c):=by
 obtain⟨vs,hr,hv⟩:=h
 obtain⟨xs,rfl,hl,hk⟩:=Sx.slice_list cs vs hv
 obtain⟨g,cap',e,hS,_⟩:=hr.form (by omega)
 simp only[Value.slice.injEq,true_and] at e
 obtain⟨rfl,rfl⟩:=e
 have hrc:=hk i (by omega) hi
 obtain⟨b,c,e2,_⟩:=repC_form hrc
 refine⟨g,b,c,rfl,hS,?_,by rw[←e2];exact hrc⟩
 rw[hr.cell i (by omega),←e2]
 simp[hl,hi]
theorem repC_at {w:World}{S:Nat→Prop}{ps:List Prt}{a:Option Addr}{cap:Nat} (h:Sx.RepC w S ps (.slice a ps.length cap)) {i:Nat} (hi:i<ps.length) :
  ∃ g,∃ s:Sx.SixV,a=some ⟨g,0,none⟩∧S g∧(∀ j,j<6→w.cell? ⟨g,i*6+j,none⟩=s.cells[j]?)∧Sx.RepP w S ps[i] s.cells:=by
 obtain⟨css,hr,hv⟩:=h
 obtain⟨vs,rfl,hl,hk⟩:=Sx.six_list ps css hv
 obtain⟨g,cap',e,hS,_⟩:=hr.form (by omega)
 simp only[Value.slice.injEq,true_and] at e
 obtain⟨rfl,rfl⟩:=e
 refine⟨g,vs[i],rfl,hS,fun j hj=>?_,hk i (by omega) hi⟩
 rw[hr.cell (i*6+j) (by omega)]
 exact Sx.six_at vs i (by omega) j hj
theorem cntCells_len (c:Cnt):(Sx.cntCells c).length=3:=rfl
theorem cnt_form {w:World}{S:Nat→Prop}{cs:List Cnt}{v:Value} (h:Sx.RowIn w S 282 3 v cs.length (cs.flatMap Sx.cntCells)):∃ a c,v=.slice a cs.length c∧cs.length≤maxLen:=by
 rcases h.2 with⟨rfl,hn⟩|⟨g,cap,cur,rfl,_,_,h1,h2,_⟩
 ·exact⟨none,0,by rw[hn],by omega⟩
 ·exact⟨_,_,rfl,by omega⟩
theorem cnt_at {w:World}{S:Nat→Prop}{cs:List Cnt}{a:Option Addr}{cap:Nat} (h:Sx.RowIn w S 282 3 (.slice a cs.length cap) cs.length (cs.flatMap Sx.cntCells)) {i:Nat} (hi:i<cs.length) :
  ∃ g,a=some ⟨g,0,none⟩∧S g∧w.cell? ⟨g,i*3,none⟩=some (.int .u8 cs[i].sign.toNat)∧w.cell? ⟨g,i*3+1,none⟩=some (.int .i64 cs[i].least)∧w.cell? ⟨g,i*3+2,none⟩=some (.int .i64 cs[i].most):=by
 obtain⟨g,cap',e,hS,_⟩:=h.form (by omega)
 simp only[Value.slice.injEq,true_and] at e
 obtain⟨rfl,rfl⟩:=e
 have key:∀ j,j<3→w.cell? ⟨g,i*3+j,none⟩=(Sx.cntCells cs[i])[j]?:=fun j hj=>by
  rw[h.cell _ (by omega)]
  exact flatF_get cntCells_len (List.getElem?_eq_getElem hi) j hj
 exact⟨g,rfl,hS,key 0 (by omega),key 1 (by omega),key 2 (by omega)⟩
theorem cnt_cut {w:World}{S:Nat→Prop}{cs:List Cnt}{c:Cnt}{a:Option Addr}{cap:Nat} (h:Sx.RowIn w S 282 3 (.slice a (cs.length+1) cap) (cs.length+1) ((cs++[c]).flatMap Sx.cntCells)) :
  Sx.RowIn w S 282 3 (.slice a cs.length cap) cs.length (cs.flatMap Sx.cntCells):=by
 refine⟨flatF_len cntCells_len cs,?_⟩
 rcases h.2 with⟨e,hn⟩|⟨g,cap',cur,e,hS,hg,h1,h2,h3,h4⟩
 ·simp at hn
 ·simp only[Value.slice.injEq,true_and] at e
  obtain⟨rfl,rfl⟩:=e
  refine .inr ⟨g,cap,cur,rfl,hS,hg,by omega,h2,h3,?_⟩
  have:=congrArg (List.take (cs.length*3)) h4
  rw[List.take_take,Nat.min_eq_left (by omega),List.flatMap_append] at this
  rw[this,List.take_left' (flatF_len cntCells_len cs)]
abbrev cnV (c:Cnt):Value:=.agg #[.int .u8 c.sign.toNat,.int .i64 c.least,.int .i64 c.most]
theorem copies_any (w:World) (c:Cnt) (hc:CntOk c) :
  Calls Tryz.prog 174 #[cnV c] w fun e w'=>e=.returned (.int .i64 ((cop c:Nat):Int))∧Below w.heap.size w w':=by
 rcases hc with hs|hs|hs|⟨hs,h0,h3,h1⟩
 ·have hs':¬((c.sign.toNat:Int)=123):=by rw[hs];decide
  have HC:Hid (cop c=1):=by show _=_;simp[cop,hs]
  clear hs
  go_enter Tryz.func174,Tryz.ntmps174
  go_wp2
  go_ret
  exact⟨by rw[HC.out];rfl,(Below.refl _ _).alloc (Nat.le_refl _) _⟩
 ·have hs':¬((c.sign.toNat:Int)=123):=by rw[hs];decide
  have HC:Hid (cop c=1):=by show _=_;simp[cop,hs]
  clear hs
  go_enter Tryz.func174,Tryz.ntmps174
  go_wp2
  go_ret
  exact⟨by rw[HC.out];rfl,(Below.refl _ _).alloc (Nat.le_refl _) _⟩
 ·have hs':¬((c.sign.toNat:Int)=123):=by rw[hs];decide
  have HC:Hid (cop c=1):=by show _=_;simp[cop,hs]
  clear hs
  go_enter Tryz.func174,Tryz.ntmps174
  go_wp2
  go_ret
  exact⟨by rw[HC.out];rfl,(Below.refl _ _).alloc (Nat.le_refl _) _⟩
 ·have hs':(c.sign.toNat:Int)=123:=by rw[hs];decide
  rcases h1 with h1|h1
  ·have HC:Hid (((cop c:Nat):Int)=c.least+1):=by show _=_;simp[cop,hs,h1];omega
   clear hs
   go_enter Tryz.func174,Tryz.ntmps174
   go_wp2
   go_ret
   exact⟨by rw[HC.out];rfl,(Below.refl _ _).alloc (Nat.le_refl _) _⟩
  ·have hm:¬ c.most=-1:=by omega
   have HC:Hid (((cop c:Nat):Int)=c.most):=by show _=_;simp[cop,hs,hm];omega
   clear hs
   go_enter Tryz.func174,Tryz.ntmps174
   go_wp2
   go_ret
   exact⟨by rw[HC.out];rfl,(Below.refl _ _).alloc (Nat.le_refl _) _⟩
def capN (n:Nat):Nat:=min n 65
def SpPK (p:Prt):Prop:=∀(w:World) (B:Nat) (s:Sx.SixV),B≤w.heap.size→Sx.RepP w (fun g=>g<B) p s.cells→Calls Tryz.prog 123 #[s.val] w fun e w'=>e=.returned (.int .i64 ((capN (spP p):Nat):Int))∧Below w.heap.size w w'
def SpCsK (cs:List (List Prt)):Prop:=∀(w:World) (B:Nat) (v:Value),B≤w.heap.size→Sx.RepCs w (fun g=>g<B) cs v→Calls Tryz.prog 72 #[v] w fun e w'=>e=.returned (.int .i64 ((capN (spCs cs):Nat):Int))∧Below w.heap.size w w'
theorem spC_append (a b:List Prt):spC (a++b)=spC a+spC b:=by
 induction a with
 |nil=>simp[spC]
 |cons p a ih=>simp[spC,ih];omega
theorem spCs_append (a b:List (List Prt)):spCs (a++b)=spCs a+spCs b:=by
 induction a with
 |nil=>simp[spCs]
 |cons p a ih=>simp[spCs,ih];omega
theorem spC_one (p:Prt):spC [p]=spP p:=by simp[spC]
theorem spCs_one (c:List Prt):spCs [c]=spC c:=by simp[spCs]
theorem repP_keep {w w':World}{B:Nat}{p:Prt}{cells:List Value} (h:Sx.RepP w (fun g=>g<B) p cells) (hb:Below B w w'):Sx.RepP w' (fun g=>g<B) p cells:=h.of_heap (fun g hg _=>⟨hg,hb.block g hg⟩) p cells
theorem repC_keep {w w':World}{B:Nat}{p:List Prt}{v:Value} (h:Sx.RepC w (fun g=>g<B) p v) (hb:Below B w w'):Sx.RepC w' (fun g=>g<B) p v:=h.of_heap (fun g hg _=>⟨hg,hb.block g hg⟩)
theorem repCs_keep {w w':World}{B:Nat}{p:List (List Prt)}{v:Value} (h:Sx.RepCs w (fun g=>g<B) p v) (hb:Below B w w'):Sx.RepCs w' (fun g=>g<B) p v:=h.of_heap (fun g hg _=>⟨hg,hb.block g hg⟩)
theorem cap_add (a b:Nat):capN (capN a+capN b)=capN (a+b):=by unfold capN;omega
theorem cap_mul (a b:Nat):capN (capN a*b)=capN (a*b):=by
 unfold capN
 rcases Nat.lt_or_ge a 66 with h|h
 ·rw[Nat.min_eq_left (a:=a) (by omega)]
 ·rw[Nat.min_eq_right (a:=a) (by omega)]
  rcases Nat.eq_zero_or_pos b with rfl|hb
  ·simp
  ·have h1:65≤65*b:=Nat.le_mul_of_pos_right _ hb
   have h2:65*b≤a*b:=Nat.mul_le_mul_right _ (by omega)
   omega
theorem spCs_step (cs:List (List Prt)) (hin:∀ c∈cs,∀ p∈c,SpPK p):SpCsK cs:=by
 intro w B v hB hR
 obtain⟨va,vc,rfl,hlen⟩:=repCs_form hR
 have HR:Hid (Sx.RepCs w (fun g=>g<B) cs (.slice va cs.length vc)):=hR
 unfold maxLen at hlen
 obtain⟨N,hN⟩:∃ N,N=cs.length:=⟨_,rfl⟩
 rw[←hN] at hlen ⊢
 have HN:Hid (N=cs.length):=hN
 clear hR hN
 go_enter Tryz.func72,Tryz.ntmps72
 go_wp2
 go_loopw [3,10] (fun m i wr=>∃ k:Nat,k≤N∧i=.int .i64 k∧m=.int .i64 ((capN (spCs (cs.take k)):Nat):Int)∧Below w.heap.size w wr) (fun _ i _=>N-(intOf i).toNat)
 case atStart=>exact⟨0,by omega,rfl,rfl,Below.refl _ _⟩
 case round=>
  obtain⟨k,hk,rfl,rfl,hb⟩:=hrel
  have HB:Hid (Below w.heap.size w wr):=hb
  have hs:=hb.size
  by_cases hlt:k<N
  ·have hltI:(k:Int)<N:=by omega
   obtain⟨g,b,c,rfl,hg,hcell,hrc⟩:=repCs_at (repCs_keep HR.out (hb.mono hB)) (i:=k) (by have:=HN.out;omega)
   rename World=>wo
   have hCm:cs[k]'(by have:=HN.out;omega)∈cs:=List.getElem_mem _
   have HSUM:Hid (spCs (cs.take (k+1))=spCs (cs.take k)+spC (cs[k]'(by have:=HN.out;omega))):=by
    show _=_
    rw[List.take_succ_eq_append_getElem (by have:=HN.out;omega),spCs_append,spCs_one]
   obtain⟨C,hC⟩:∃ C,C=cs[k]'(by have:=HN.out;omega):=⟨_,rfl⟩
   rw[←hC] at hcell hrc hCm HSUM
   clear hC
   obtain⟨_,_,_,hM⟩:=repC_form hrc
   have HRC:Hid (Sx.RepC wo (fun g=>g<B) C (.slice b C.length c)):=hrc
   unfold maxLen at hM
   have hpk:=hin C hCm
   obtain⟨M,hMe⟩:∃ M,M=C.length:=⟨_,rfl⟩
   rw[←hMe] at hcell hM
   have HM:Hid (M=C.length):=hMe
   clear hrc hMe hCm hb
   go_wp2
   go_loopw [3,16] (fun m j wi=>∃ q:Nat,q≤M∧j=.int .i64 q∧m=.int .i64 ((capN (spCs (cs.take k)+spC (C.take q)):Nat):Int)∧Below wo.heap.size wo wi) (fun _ j _=>M-(intOf j).toNat)
   case atStart=>exact⟨0,by omega,rfl,by simp[spC],Below.refl _ _⟩
   case round=>
    obtain⟨q,hq,rfl,rfl,hbi⟩:=hrel
    have HBI:Hid (Below wo.heap.size wo wr):=hbi
    have hsi:=hbi.size
    clear hcell
    by_cases hlq:q<M
    ·have hlqI:(q:Int)<M:=by omega
     have hqC:q<C.length:=by have:=HM.out;omega
     obtain⟨g2,s,hb2,hg2,hcells,hrp⟩:=repC_at (repC_keep HRC.out (hbi.mono (by omega))) (i:=q) hqC
     subst hb2
     have d0:=hcells 0 (by omega)
     have d1:=hcells 1 (by omega)
     have d2:=hcells 2 (by omega)
     have d3:=hcells 3 (by omega)
     have d4:=hcells 4 (by omega)
     have d5:=hcells 5 (by omega)
     simp only[Sx.SixV.cells,Nat.add_zero,List.getElem?_cons_zero,List.getElem?_cons_succ] at d0 d1 d2 d3 d4 d5
     have HSP:Hid (spC (C.take (q+1))=spC (C.take q)+spP C[q]):=by
      show _=_
      rw[List.take_succ_eq_append_getElem hqC,spC_append,spC_one]
     obtain⟨T,hTe⟩:∃ T,T=spP C[q]:=⟨_,rfl⟩
     have hcall:=hpk C[q] (List.getElem_mem _) (wr.alloc (.cells #[.slice s.q0 s.q1 s.q2,.int .u64 s.y0,.int .u64 s.y1,.int .u64 s.y2,.int .u64 s.y3,.slice s.r0 s.r1 s.r2] 231)) B s (by simp;omega) (repP_keep hrp (((Below.refl _ _).alloc (Nat.le_refl _) _).mono (by omega)))
     rw[←hTe] at hcall HSP
     have hT65:capN T≤65:=by unfold capN;omega
     obtain⟨t,ht⟩:∃ t,t=capN T:=⟨_,rfl⟩
     obtain⟨m,hm⟩:∃ m,m=capN (spCs (cs.take k)+spC (C.take q)):=⟨_,rfl⟩
     have hm65:m≤65:=by rw[hm];unfold capN;omega
     have HRES:Hid ((if (65:Int)<(m:Int)+(t:Int) then(65:Int) else(m:Int)+(t:Int))=((capN (spCs (cs.take k)+spC (C.take (q+1))):Nat):Int)):=by
      show _=_
      rw[HSP.out,←Nat.add_assoc,←cap_add,←ht,←hm]
      unfold capN
      split<;>omega
     rw[←ht] at hcall hT65
     rw[←hm]
     clear hcells hrp hTe ht hm hbi
     go_wp2_with (go_at_call 123;refine hcall.mono ?_;rintro e w2 ⟨rfl,hb2⟩;have HB2:Hid (Below wo.heap.size wo w2):=HBI.out.trans ((((Below.refl _ _).alloc (Nat.le_refl _) _).trans (hb2.mono (by simp))).mono hsi);clear hb2)
     go_roundw
     case rel=>exact⟨q+1,by omega,by go_num,by rw[HRES.out],HB2.out⟩
     case measure=>simp[intOf]<;>omega
    ·have hqI:¬(q:Int)<M:=by omega
     have hqe:q=C.length:=by have:=HM.out;omega
     have HE:Hid (spCs (cs.take (k+1))=spCs (cs.take k)+spC (C.take q)):=by
      show _=_
      rw[hqe,List.take_length];exact HSUM.out
     clear hqe
     go_wp2
     go_roundw
     case rel=>exact⟨k+1,by omega,by go_num,by rw[HE.out],HB.out.trans (HBI.out.mono hs)⟩
     case measure=>simp[intOf]<;>omega
  ·have hkI:¬(k:Int)<N:=by omega
   have HE:Hid (spCs (cs.take k)=spCs cs):=by
    show _=_
    rw[show k=cs.length by have:=HN.out;omega,List.take_length]
   go_wp2
   go_ret
   exact⟨by rw[←HE.out];rfl,HB.out⟩
theorem six_rep {w:World}{S:Nat→Prop}{g:List (List Prt)}{B:Nat→Bool}{cs:List Cnt}{s:Sx.SixV} (h:Sx.RepP w S (.mk g B cs) s.cells):Sx.RepCs w S g (.slice s.q0 s.q1 s.q2)∧Sx.Wd s.y0 s.y1 s.y2 s.y3 B∧Sx.RowIn w S 282 3 (.slice s.r0 s.r1 s.r2) cs.length (cs.flatMap Sx.cntCells):=by
 simp only[Sx.RepP] at h
 obtain⟨gv,x0,x1,x2,x3,cv,he,h1,h2,h3⟩:=h
 simp only[Sx.SixV.cells,List.cons.injEq,Value.int.injEq,true_and,and_true] at he
 obtain⟨rfl,e0,e1,e2,e3,rfl⟩:=he
 refine⟨h1,?_,h3⟩
 have:s.y0=x0∧s.y1=x1∧s.y2=x2∧s.y3=x3:=by omega
 rw[this.1,this.2.1,this.2.2.1,this.2.2.2]
 exact h2
theorem spN_take (n:Nat) (cs:List Cnt) (k:Nat) (h:k<cs.length):spN n (cs.take (k+1)).reverse=spN n (cs.take k).reverse*cop cs[k]:=by
 rw[List.take_succ_eq_append_getElem h,List.reverse_append]
 simp[spN]
theorem spP_step (g:List (List Prt)) (S:Nat→Bool) (cs:List Cnt) (hg:SpCsK g) (hc:∀ c∈cs,CntOk c):SpPK (.mk g S cs):=by
 intro w B s hB hR
 obtain⟨hrg,-,hrc⟩:=six_rep hR
 obtain⟨a1,c1,e1,hgl⟩:=repCs_form hrg
 obtain⟨a2,c2,e2,hcl⟩:=cnt_form hrc
 simp only[Value.slice.injEq] at e1 e2
 obtain⟨q0,q1,q2,y0,y1,y2,y3,r0,r1,r2⟩:=s
 simp only at e1 e2 hrg hrc
 obtain⟨rfl,rfl,rfl⟩:=e1
 obtain⟨rfl,rfl,rfl⟩:=e2
 obtain⟨w1,hw1⟩:∃ w1,w1=w.alloc (.cells #[.slice q0 g.length q2,.int .u64 y0,.int .u64 y1,.int .u64 y2,.int .u64 y3,.slice r0 cs.length r2] 231):=⟨_,rfl⟩
 have hb1:Below w.heap.size w w1:=by rw[hw1];exact(Below.refl _ _).alloc (Nat.le_refl _) _
 have hk1:w1.heap[w.heap.size]?=some (.cells #[.slice q0 g.length q2,.int .u64 y0,.int .u64 y1,.int .u64 y2,.int .u64 y3,.slice r0 cs.length r2] 231):=by rw[hw1];exact heap_alloc_new w _
 have hs1:w1.heap.size=w.heap.size+1:=by rw[hw1];simp
 have hcall:=hg w1 B _ (by omega) (repCs_keep hrg (hb1.mono hB))
 have HRC:Hid (Sx.RowIn w (fun g=>g<B) 282 3 (.slice r0 cs.length r2) cs.length (cs.flatMap Sx.cntCells)):=hrc
 have HW:Hid (w1=w.alloc (.cells #[.slice q0 g.length q2,.int .u64 y0,.int .u64 y1,.int .u64 y2,.int .u64 y3,.slice r0 cs.length r2] 231)):=hw1
 have HB1:Hid (Below w.heap.size w w1):=hb1
 have HK1:Hid (w1.heap[w.heap.size]?=some (.cells #[.slice q0 g.length q2,.int .u64 y0,.int .u64 y1,.int .u64 y2,.int .u64 y3,.slice r0 cs.length r2] 231)):=hk1
 have HSP:Hid (spP (.mk g S cs)=spN (spA g) cs.reverse):=spP_eq g S cs
 unfold maxLen at hcl hgl
 obtain⟨N,hN⟩:∃ N,N=cs.length:=⟨_,rfl⟩
 have HN:Hid (N=cs.length):=hN
 obtain⟨M,hM⟩:∃ M,M=g.length:=⟨_,rfl⟩
 have HM:Hid (M=g.length):=hM
 rw[←hN] at hcl
 rw[←hM] at hgl
 obtain⟨A,hA⟩:∃ A,A=spA g:=⟨_,rfl⟩
 have HAE:Hid (A=spA g):=hA
 rw[←hA] at HSP
 by_cases hz:M=0
 ·have HA:Hid (A=1):=by
   show _=_
   have:g=[]:=List.eq_nil_of_length_eq_zero (by omega)
   rw[hA,this];rfl
  have hMI:¬(0:Int)<(M:Int):=by omega
  rw[←hN,←hM]
  clear hw1 hb1 hk1 hrg hrc hR hg hN hM hcall hz hA
  go_enter Tryz.func123,Tryz.ntmps123
  go_wp2
  go_loopw [3,18] (fun m i wr=>∃ k:Nat,k≤N∧i=.int .i64 k∧m=.int .i64 ((capN (spN A (cs.take k).reverse):Nat):Int)∧Below w.heap.size w wr) (fun _ i _=>N-(intOf i).toNat)
  case atStart=>exact⟨0,by omega,rfl,by simp[HA.out,spN,capN],(Below.refl _ _).alloc (Nat.le_refl _) _⟩
  case round=>
   obtain⟨k,hk,rfl,rfl,hb⟩:=hrel
   have HB:Hid (Below w.heap.size w wr):=hb
   have hs:=hb.size
   by_cases hlt:k<N
   ·have hltI:(k:Int)<N:=by omega
    have hkc:k<cs.length:=by have:=HN.out;omega
    obtain⟨g2,ha2,hg2,d0,d1,d2⟩:=cnt_at (HRC.out.of_heap (S':=fun g=>g<B) (fun g hg _=>⟨hg,(hb.mono hB).block g hg⟩)) (i:=k) hkc
    subst ha2
    have hok:=hc cs[k] (List.getElem_mem _)
    have HSN:Hid (spN A (cs.take (k+1)).reverse=spN A (cs.take k).reverse*cop cs[k]):=spN_take A cs k hkc
    obtain⟨c,hce⟩:∃ c,c=cs[k]:=⟨_,rfl⟩
    rw[←hce] at d0 d1 d2 hok HSN
    have hcop:cop c≤31:=by
     rcases hok with h|h|h|⟨h,h0,h3,h1⟩
     ·simp[cop,h]
     ·simp[cop,h]
     ·simp[cop,h]
     ·unfold cop;split
      ·omega
      ·split<;>omega
    have hcall:=copies_any (wr.alloc (.cells #[.int .u8 c.sign.toNat,.int .i64 c.least,.int .i64 c.most] 282)) c hok
    obtain⟨t,ht⟩:∃ t,t=cop c:=⟨_,rfl⟩
    obtain⟨m,hm⟩:∃ m,m=capN (spN A (cs.take k).reverse):=⟨_,rfl⟩
    have hm65:m≤65:=by rw[hm];unfold capN;omega
    have hmt:m*t≤65*31:=Nat.mul_le_mul hm65 (by omega)
    have hmc:((m*t:Nat):Int)=(m:Int)*(t:Int):=by simp
    have hlow:0≤(m:Int)*(t:Int):=by omega
    have hhigh:(m:Int)*(t:Int)≤2015:=by omega
    have HRES:Hid ((if (65:Int)<(m:Int)*(t:Int) then(65:Int) else(m:Int)*(t:Int))=((capN (spN A (cs.take (k+1)).reverse):Nat):Int)):=by
     show _=_
     rw[HSN.out,←cap_mul,←ht,←hm,←hmc]
     unfold capN
     split<;>omega
    rw[←ht] at hcall
    rw[←hm]
    clear hce ht hm hb hok hmt hmc hcop hm65
    go_wp2_with (go_at_call 174;refine hcall.mono ?_;rintro e w2 ⟨rfl,hb2⟩;have HB2:Hid (Below w.heap.size w w2):=HB.out.trans ((((Below.refl _ _).alloc (Nat.le_refl _) _).trans (hb2.mono (by simp))).mono hs);clear hb2)
    go_roundw
    case rel=>exact⟨k+1,by omega,by go_num,by rw[HRES.out],HB2.out⟩
    case measure=>simp[intOf]<;>omega
   ·have hkI:¬(k:Int)<N:=by omega
    have HE:Hid (spN A (cs.take k).reverse=spN A cs.reverse):=by
     show _=_
     rw[show k=cs.length by have:=HN.out;omega,List.take_length]
    go_wp2
    go_ret
    exact⟨by rw[HSP.out,←HE.out];rfl,HB.out⟩
 ·have HA:Hid (A=spCs g):=by
   show _=_
   cases g with
   |nil=>simp at hM;omega
   |cons c gs=>rw[hA,spA_cons]
  have hMI:(0:Int)<(M:Int):=by omega
  obtain⟨y,hy⟩:∃ y,y=capN (spCs g):=⟨_,rfl⟩
  have HY:Hid (y=capN (spCs g)):=hy
  rw[←hy,←hM] at hcall
  rw[←hN,←hM]
  rw[←hN,←hM] at HW HK1
  clear hw1 hb1 hk1 hrg hrc hR hg hN hM hz hA hy
  go_enter Tryz.func123,Tryz.ntmps123
  go_wp2_with (go_at_call 72;rw[←HW.out];refine hcall.mono ?_;rintro e w2 ⟨rfl,hb2⟩;have HB2:Hid (Below w.heap.size w w2):=HB1.out.trans (hb2.mono (by omega));have hx2:=(hb2.block w.heap.size (by omega)).trans HK1.out;have x5:w2.cell? ⟨w.heap.size,5,none⟩=some (.slice r0 N r2):=(by simp[World.cell?,hx2]);clear hb2 hx2)
  go_loopw [3,18] (fun m i wr=>∃ k:Nat,k≤N∧i=.int .i64 k∧m=.int .i64 ((capN (spN A (cs.take k).reverse):Nat):Int)∧Below w.heap.size w wr) (fun _ i _=>N-(intOf i).toNat)
  case atStart=>exact⟨0,by omega,rfl,by simp[HA.out,spN,HY.out],HB2.out⟩
  case round=>
   obtain⟨k,hk,rfl,rfl,hb⟩:=hrel
   have HB:Hid (Below w.heap.size w wr):=hb
   have hs:=hb.size
   by_cases hlt:k<N
   ·have hltI:(k:Int)<N:=by omega
    have hkc:k<cs.length:=by have:=HN.out;omega
    obtain⟨g2,ha2,hg2,d0,d1,d2⟩:=cnt_at (HRC.out.of_heap (S':=fun g=>g<B) (fun g hg _=>⟨hg,(hb.mono hB).block g hg⟩)) (i:=k) hkc
    subst ha2
    have hok:=hc cs[k] (List.getElem_mem _)
    have HSN:Hid (spN A (cs.take (k+1)).reverse=spN A (cs.take k).reverse*cop cs[k]):=spN_take A cs k hkc
    obtain⟨c,hce⟩:∃ c,c=cs[k]:=⟨_,rfl⟩
    rw[←hce] at d0 d1 d2 hok HSN
    have hcop:cop c≤31:=by
     rcases hok with h|h|h|⟨h,h0,h3,h1⟩
     ·simp[cop,h]
     ·simp[cop,h]
     ·simp[cop,h]
     ·unfold cop;split
      ·omega
      ·split<;>omega
    have hcall:=copies_any (wr.alloc (.cells #[.int .u8 c.sign.toNat,.int .i64 c.least,.int .i64 c.most] 282)) c hok
    obtain⟨t,ht⟩:∃ t,t=cop c:=⟨_,rfl⟩
    obtain⟨m,hm⟩:∃ m,m=capN (spN A (cs.take k).reverse):=⟨_,rfl⟩
    have hm65:m≤65:=by rw[hm];unfold capN;omega
    have hmt:m*t≤65*31:=Nat.mul_le_mul hm65 (by omega)
    have hmc:((m*t:Nat):Int)=(m:Int)*(t:Int):=by simp
    have hlow:0≤(m:Int)*(t:Int):=by omega
    have hhigh:(m:Int)*(t:Int)≤2015:=by omega
    have HRES:Hid ((if (65:Int)<(m:Int)*(t:Int) then(65:Int) else(m:Int)*(t:Int))=((capN (spN A (cs.take (k+1)).reverse):Nat):Int)):=by
     show _=_
     rw[HSN.out,←cap_mul,←ht,←hm,←hmc]
     unfold capN
     split<;>omega
    rw[←ht] at hcall
    rw[←hm]
    clear hce ht hm hb hok hmt hmc hcop hm65
    go_wp2_with (go_at_call 174;refine hcall.mono ?_;rintro e w2 ⟨rfl,hb2⟩;have HB2:Hid (Below w.heap.size w w2):=HB.out.trans ((((Below.refl _ _).alloc (Nat.le_refl _) _).trans (hb2.mono (by simp))).mono hs);clear hb2)
    go_roundw
    case rel=>exact⟨k+1,by omega,by go_num,by rw[HRES.out],HB2.out⟩
    case measure=>simp[intOf]<;>omega
   ·have hkI:¬(k:Int)<N:=by omega
    have HE:Hid (spN A (cs.take k).reverse=spN A cs.reverse):=by
     show _=_
     rw[show k=cs.length by have:=HN.out;omega,List.take_length]
    go_wp2
    go_ret
    exact⟨by rw[HSP.out,←HE.out];rfl,HB.out⟩
mutual
theorem spP_all:∀ p,TrOk p→SpPK p
 |.mk g S cs,h=>by
  simp only[TrOk] at h
  exact spP_step g S cs (spCs_step g (spVs_all g h.2)) h.1
theorem spPs_all:∀ ps,TrOkC ps→∀ p∈ps,SpPK p
 |[],_,p,hp=>by simp at hp
 |q::ps,h,p,hp=>by
  simp only[TrOkC] at h
  rcases List.mem_cons.1 hp with he|hp
  ·rw[he];exact spP_all q h.1
  ·exact spPs_all ps h.2 p hp
theorem spVs_all:∀ cs,TrOkVs cs→∀ c∈cs,∀ p∈c,SpPK p
 |[],_,c,hc,p,hp=>by simp at hc
 |d::cs,h,c,hc,p,hp=>by
  simp only[TrOkVs] at h
  rcases List.mem_cons.1 hc with he|hc
  ·rw[he] at hp;exact spPs_all d h.1 p hp
  ·exact spVs_all cs h.2 c hc p hp
end
theorem spCs_all (cs:List (List Prt)) (h:TrOkVs cs):SpCsK cs:=spCs_step cs (spVs_all cs h)
def MkRes (sb:Nat) (w:World) (vb vf:Value) (x:Pc×Ex) (r:Ending) (w':World):Prop:=r=.returned (pcV x.1)∧∃ vb' vf',ExAt w' sb vb' vf' x.2∧Grw sb w vb vf w' vb' vf'
structure Beg (w:World) (sb:Nat) (vb vf:Value) (e:Ex) (n k:Nat):Prop where
 tz:TabZ w
 s1:1<sb
 at_:ExAt w sb vb vf e
 ok:ExOk n e
 le:n+k≤64
theorem Beg.below {w w':World}{sb:Nat}{vb vf:Value}{e:Ex}{n k:Nat} (h:Beg w sb vb vf e n k) (hb:Below w.heap.size w w'):Beg w' sb vb vf e n k:=⟨h.tz.keep (hb.block 1 h.tz.lt),h.s1,h.at_.below hb,h.ok,h.le⟩
theorem Beg.less {w:World}{sb:Nat}{vb vf:Value}{e:Ex}{n k k':Nat} (h:Beg w sb vb vf e n k) (hk:k'≤k):Beg w sb vb vf e n k':=⟨h.tz,h.s1,h.at_,h.ok,by have:=h.le;omega⟩
theorem Beg.lt {w:World}{sb:Nat}{vb vf:Value}{e:Ex}{n k:Nat} (h:Beg w sb vb vf e n k) {b:Nat} (hb:EFoot sb vb vf b):sb≤b∧b<w.heap.size:=h.at_.lt hb
theorem Beg.sb {w:World}{sb:Nat}{vb vf:Value}{e:Ex}{n k:Nat} (h:Beg w sb vb vf e n k):sb<w.heap.size:=(h.lt (.inl rfl)).2
theorem Beg.on {w w':World}{sb:Nat}{vb vf vb' vf':Value}{e e':Ex}{n k n' k':Nat} (h:Beg w sb vb vf e n k) (hx:ExAt w' sb vb' vf' e') (hg:Grw sb w vb vf w' vb' vf') (ho:ExOk n' e') (hk:n'+k'≤64):Beg w' sb vb' vf' e' n' k':=
 ⟨h.tz.keep (hg.same h.tz.lt (fun q=>by have:=(h.lt q).1;have:=h.s1;omega)),h.s1,hx,ho,hk⟩
theorem grw_below {w w':World}{sb:Nat}{vb vf vb' vf':Value} (hx:∀ b,EFoot sb vb vf b→sb≤b) (hs:sb≤w.heap.size) (hg:Grw sb w vb vf w' vb' vf'):Below sb w w':=
 ⟨hg.exc.os,hg.exc.tape,hg.exc.output,hg.exc.size,fun k hk=>hg.same (by omega) (fun q=>by have:=hx k q;omega)⟩
theorem Beg.bl {w w':World}{sb:Nat}{vb vf vb' vf':Value}{e:Ex}{n k:Nat} (h:Beg w sb vb vf e n k) (hg:Grw sb w vb vf w' vb' vf'):Below sb w w':=grw_below (fun b hb=>(h.lt hb).1) (Nat.le_of_lt h.sb) hg
abbrev atV (s:Sx.SixV):Value:=.agg #[.slice s.q0 s.q1 s.q2,.int .u64 s.y0,.int .u64 s.y1,.int .u64 s.y2,.int .u64 s.y3]
def PartK (p:Prt):Prop:=∀(w:World) (sb:Nat) (vb vf:Value) (e:Ex) (n:Nat) (s:Sx.SixV),Beg w sb vb vf e n (spP p)→Sx.RepP w (fun g=>g<sb) p s.cells →
 Calls Tryz.prog 176 #[.pointer (some ⟨sb,0,none⟩),s.val] w (MkRes sb w vb vf (exP p e))
def atomM (g:List (List Prt)) (S:Nat→Bool):Mk:=match g with|[]=>newM S|_::_=>exCs g pc0
def AtomK (g:List (List Prt)) (S:Nat→Bool):Prop:=∀(w:World) (sb:Nat) (vb vf:Value) (e:Ex) (n:Nat) (s:Sx.SixV),Beg w sb vb vf e n (spA g)→Sx.RepCs w (fun g=>g<sb) g (.slice s.q0 s.q1 s.q2)→Sx.Wd s.y0 s.y1 s.y2 s.y3 S →
 Calls Tryz.prog 198 #[.pointer (some ⟨sb,0,none⟩),atV s] w (MkRes sb w vb vf (atomM g S e))
def TimesK (p:Prt) (c:Cnt):Prop:=∀(w:World) (sb:Nat) (vb vf:Value) (e:Ex) (n:Nat) (s:Sx.SixV),Beg w sb vb vf e n (spP p*cop c)→Sx.RepP w (fun g=>g<sb) p s.cells →
 Calls Tryz.prog 199 #[.pointer (some ⟨sb,0,none⟩),s.val,cnV c] w (MkRes sb w vb vf (timesM (exP p) c e))
def ChainK (ps:List Prt):Prop:=∀(w:World) (sb:Nat) (vb vf:Value) (e:Ex) (n:Nat) (v:Value),Beg w sb vb vf e n (spC ps)→Sx.RepC w (fun g=>g<sb) ps v →
 Calls Tryz.prog 124 #[.pointer (some ⟨sb,0,none⟩),v] w (MkRes sb w vb vf (exC ps pcN e))
def ChoicesK (cs:List (List Prt)):Prop:=∀(w:World) (sb:Nat) (vb vf:Value) (e:Ex) (n:Nat) (v:Value),Beg w sb vb vf e n (spCs cs)→Sx.RepCs w (fun g=>g<sb) cs v →
 Calls Tryz.prog 73 #[.pointer (some ⟨sb,0,none⟩),v] w (MkRes sb w vb vf (exCs cs pc0 e))
theorem exP_at (g:List (List Prt)) (S:Nat→Bool) (cs:List Cnt):exP (.mk g S cs)=partM (atomM g S) (spA g) cs.reverse:=by
 rw[exP_eq];cases g<;>rfl
theorem exP_zero {g:List (List Prt)}{S:Nat→Bool}{cs:List Cnt} (h:spP (.mk g S cs)=0) (e:Ex):exP (.mk g S cs) e=(pcN,e):=by
 rw[exP_at]
 rw[spP_eq] at h
 match hc:cs.reverse,h with
 |[],h=>simp only[spN] at h;simp[partM,h]
 |c::r,h=>simp only[partM,if_pos h]
theorem exP_nil {g:List (List Prt)}{S:Nat→Bool} (h:spP (.mk g S [])≠0):exP (.mk g S [])=atomM g S:=by
 rw[exP_at]
 rw[spP_eq] at h
 simp only[List.reverse_nil,spN] at h
 simp[partM,h]
theorem exP_snoc {g:List (List Prt)}{S:Nat→Bool}{cs:List Cnt}{c:Cnt} (h:spP (.mk g S (cs++[c]))≠0):exP (.mk g S (cs++[c]))=timesM (exP (.mk g S cs)) c:=by
 rw[exP_at,exP_at]
 rw[spP_eq] at h
 simp only[List.reverse_append,List.reverse_cons,List.reverse_nil,List.nil_append,List.cons_append] at h ⊢
 simp only[partM,if_neg h]
theorem spP_snoc (g:List (List Prt)) (S:Nat→Bool) (cs:List Cnt) (c:Cnt):spP (.mk g S (cs++[c]))=spP (.mk g S cs)*cop c:=by
 rw[spP_eq,spP_eq];simp[spN]
structure PB (W:World) (H:Nat) (s:Sx.SixV):Prop where
 k0:W.heap[H]?=some (.cells #[.slice s.q0 s.q1 s.q2,.int .u64 s.y0,.int .u64 s.y1,.int .u64 s.y2,.int .u64 s.y3,.slice s.r0 s.r1 s.r2] 231)
 k1:W.heap[H+1]?=some (.cells zC 152)
theorem PB.keep {W W':World}{H:Nat}{s:Sx.SixV} (h:PB W H s) (k:∀ j,H≤j→j<H+2→W'.heap[j]?=W.heap[j]?):PB W' H s:=⟨(k _ (by omega) (by omega)).trans h.k0,(k _ (by omega) (by omega)).trans h.k1⟩
theorem PB.lt {W:World}{H:Nat}{s:Sx.SixV} (h:PB W H s):H+1<W.heap.size:=(Array.getElem?_eq_some_iff.1 h.k1).1
theorem box6' {w:World}{b:Nat}{x0 x1 x2 x3 x4 x5:Value}{T:TypeId} (h:w.heap[b]?=some (.cells #[x0,x1,x2,x3,x4,x5] T)):w.cell? ⟨b,0,none⟩=some x0∧w.cell? ⟨b,1,none⟩=some x1∧w.cell? ⟨b,2,none⟩=some x2∧w.cell? ⟨b,3,none⟩=some x3∧w.cell? ⟨b,4,none⟩=some x4∧w.cell? ⟨b,5,none⟩=some x5:=by
 refine⟨?_,?_,?_,?_,?_,?_⟩<;>simp[World.cell?,h]
theorem pb_new (w:World) (s:Sx.SixV):PB ((w.alloc (.cells #[.slice s.q0 s.q1 s.q2,.int .u64 s.y0,.int .u64 s.y1,.int .u64 s.y2,.int .u64 s.y3,.slice s.r0 s.r1 s.r2] 231)).alloc (.cells zC 152)) w.heap.size s:=by
 refine⟨(Below.heap_alloc _ _ _ (by simp)).trans (heap_alloc_new w _),?_⟩
 have:=heap_alloc_new (w.alloc (.cells #[.slice s.q0 s.q1 s.q2,.int .u64 s.y0,.int .u64 s.y1,.int .u64 s.y2,.int .u64 s.y3,.slice s.r0 s.r1 s.r2] 231)) (.cells zC 152)
 simpa using this
theorem part_zero (p:Prt) (hp:SpPK p) (hz:spP p=0) (w:World) (sb:Nat) (vb vf:Value) (e:Ex) (n:Nat) (s:Sx.SixV) (h:Beg w sb vb vf e n (spP p)) (hR:Sx.RepP w (fun g=>g<sb) p s.cells) :
  Calls Tryz.prog 176 #[.pointer (some ⟨sb,0,none⟩),s.val] w (MkRes sb w vb vf (pcN,e)):=by
 have HH:Hid (Beg w sb vb vf e n (spP p)):=h
 have HR:Hid (Sx.RepP w (fun g=>g<sb) p s.cells):=hR
 obtain⟨w1,hw1⟩:∃ w1,w1=(w.alloc (.cells #[.slice s.q0 s.q1 s.q2,.int .u64 s.y0,.int .u64 s.y1,.int .u64 s.y2,.int .u64 s.y3,.slice s.r0 s.r1 s.r2] 231)).alloc (.cells zC 152):=⟨_,rfl⟩
 have HP1:Hid (PB w1 w.heap.size s):=by rw[hw1];exact pb_new w s
 have hb1:Below w.heap.size w w1:=by rw[hw1];exact((Below.refl _ _).alloc (Nat.le_refl _) _).alloc (by simp) _
 have hs1:w1.heap.size=w.heap.size+2:=by rw[hw1];simp
 have hsp:=hp w1 sb s (by have:=h.sb;omega) (repP_keep hR (hb1.mono (Nat.le_of_lt h.sb)))
 rw[hz] at hsp
 have HB1:Hid (Below w.heap.size w w1):=hb1
 have HW:Hid (w1=(w.alloc (.cells #[.slice s.q0 s.q1 s.q2,.int .u64 s.y0,.int .u64 s.y1,.int .u64 s.y2,.int .u64 s.y3,.slice s.r0 s.r1 s.r2] 231)).alloc (.cells zC 152)):=hw1
 have hc0:((capN 0:Nat):Int)=0:=by decide
 rw[hc0] at hsp
 clear hw1 hb1 h hR hz hc0
 go_enter Tryz.func176,Tryz.ntmps176
 go_wp2_with (go_at_call 123;rw[←HW.out];refine hsp.mono ?_;rintro r w2 ⟨rfl,hb2⟩;have HP:Hid (PB w2 w.heap.size s):=HP1.out.keep (fun j h1 h2=>hb2.block j (by omega));have HB2:Hid (Below w.heap.size w w2):=HB1.out.trans (hb2.mono (by omega));clear hb2;obtain⟨p0,p1,p2,p3,p4,p5⟩:=box6' HP.out.k0;obtain⟨z0,z1,z2,z3,z4,z5,z6,z7,z8⟩:=box9z HP.out.k1;have zf:∀ o,World.frozen? w2 ⟨w.heap.size+1,o,none⟩=false:=(fun o=>by simp[World.frozen?,HP.out.k1]);have pf:∀ o,World.frozen? w2 ⟨w.heap.size,o,none⟩=false:=(fun o=>by simp[World.frozen?,HP.out.k0]))
 obtain⟨W,hW⟩:∃ W,W=S9 w2 (w.heap.size+1) pcN:=⟨_,rfl⟩
 have hW2:=hW
 simp only[S9,pcN,W4.none,Int.natCast_zero] at hW2
 rw[←hW2]
 have hq:W.heap[w.heap.size+1]?=some (.cells (pcC pcN) 152):=by rw[hW];exact S9_own _ HP.out.k1
 obtain⟨r0,r1,r2,r3,r4,r5,r6,r7,r8⟩:=box9 hq
 refine bodyPost_ret (v:=pcV pcN) (by simp[results,Tryz.results176,go_sem,r0,r1,r2,r3,r4,r5,r6,r7,r8]) rfl ⟨rfl,vb,vf,?_,?_⟩
 ·rw[hW]
  exact ExAt.put (HH.out.at_.below HB2.out) (fun q=>by have:=(HH.out.lt q).2;omega) _
 ·rw[hW]
  exact Grw.put (Grw.of_below HB2.out) (by omega) _
theorem PB.al {W:World}{H:Nat}{s:Sx.SixV} (h:PB W H s) (ob:Obj):PB (W.alloc ob) H s:=h.keep (fun j h1 h2=>Below.heap_alloc _ _ _ (by have:=h.lt;omega))
theorem part_atom (g:List (List Prt)) (S:Nat→Bool) (hp:SpPK (.mk g S [])) (ha:AtomK g S) (hz:spP (.mk g S [])≠0) (w:World) (sb:Nat) (vb vf:Value) (e:Ex) (n:Nat) (s:Sx.SixV) (h:Beg w sb vb vf e n (spP (.mk g S []))) (hR:Sx.RepP w (fun g=>g<sb) (.mk g S []) s.cells) :
  Calls Tryz.prog 176 #[.pointer (some ⟨sb,0,none⟩),s.val] w (MkRes sb w vb vf (atomM g S e)):=by
 have HH:Hid (Beg w sb vb vf e n (spP (.mk g S []))):=h
 obtain⟨hrg,hwd,hrc⟩:=six_rep hR
 obtain⟨a2,c2,e2,-⟩:=cnt_form hrc
 simp only[Value.slice.injEq,List.length_nil] at e2
 have hr1:s.r1=0:=e2.2.1
 obtain⟨q0,q1,q2,y0,y1,y2,y3,r0,r1,r2⟩:=s
 simp only at hr1
 subst hr1
 clear e2
 simp only at hrg hwd hrc
 have HRG:Hid (Sx.RepCs w (fun g=>g<sb) g (.slice q0 q1 q2)):=hrg
 obtain⟨w1,hw1⟩:∃ w1,w1=(w.alloc (.cells #[.slice q0 q1 q2,.int .u64 y0,.int .u64 y1,.int .u64 y2,.int .u64 y3,.slice r0 0 r2] 231)).alloc (.cells zC 152):=⟨_,rfl⟩
 have HP1:Hid (PB w1 w.heap.size ⟨q0,q1,q2,y0,y1,y2,y3,r0,0,r2⟩):=by rw[hw1];exact pb_new w ⟨q0,q1,q2,y0,y1,y2,y3,r0,0,r2⟩
 have hb1:Below w.heap.size w w1:=by rw[hw1];exact((Below.refl _ _).alloc (Nat.le_refl _) _).alloc (by simp) _
 have hs1:w1.heap.size=w.heap.size+2:=by rw[hw1];simp
 have hsp:=hp w1 sb _ (by have:=h.sb;omega) (repP_keep hR (hb1.mono (Nat.le_of_lt h.sb)))
 have HB1:Hid (Below w.heap.size w w1):=hb1
 have HW:Hid (w1=(w.alloc (.cells #[.slice q0 q1 q2,.int .u64 y0,.int .u64 y1,.int .u64 y2,.int .u64 y3,.slice r0 0 r2] 231)).alloc (.cells zC 152)):=hw1
 have hsA:spP (.mk g S [])=spA g:=by rw[spP_eq];rfl
 obtain⟨m,hm⟩:∃ m,m=capN (spP (.mk g S [])):=⟨_,rfl⟩
 have hm0:¬(m:Int)=0:=by rw[hm];unfold capN;omega
 rw[←hm] at hsp
 have hAT:=fun w2 (hb:Below w.heap.size w w2)=>ha w2 sb vb vf e n ⟨q0,q1,q2,y0,y1,y2,y3,r0,0,r2⟩ ((HH.out.below hb).less (by rw[hsA];exact Nat.le_refl _)) (repCs_keep HRG.out (hb.mono (Nat.le_of_lt HH.out.sb))) hwd
 obtain⟨X,hX⟩:∃ X,X=atomM g S e:=⟨_,rfl⟩
 rw[←hX] at hAT ⊢
 have HSB:Hid (sb<w.heap.size):=h.sb
 clear hw1 hb1 h hR hz hm hrg hrc hwd hsA hX
 go_enter Tryz.func176,Tryz.ntmps176
 go_wp2_with (first|(go_at_call 198;refine(hAT w2 HB2.out).mono ?_;rintro r w3 ⟨rfl,vb3,vf3,hx3,hg3⟩;have HX3:Hid (ExAt w3 sb vb3 vf3 X.2):=hx3;have HG3:Hid (Grw sb w vb vf w3 vb3 vf3):=((Grw.of_below HB2.out).trans hg3);have hk3:=hg3.same (b:=w.heap.size+1) HP.out.lt (fun q=>by have:=(HH.out.lt q).2;omega);have HK3:Hid (w3.heap[w.heap.size+1]?=some (.cells zC 152)):=hk3.trans HP.out.k1;have HN3:Hid (¬ EFoot sb vb3 vf3 (w.heap.size+1)):=(fun q=>by rcases hg3.new _ q with q'|q';have:=(HH.out.lt q').2;omega;have:=HP.out.lt;omega);obtain⟨z0,z1,z2,z3,z4,z5,z6,z7,z8⟩:=box9z HK3.out;have zf:∀ o,World.frozen? w3 ⟨w.heap.size+1,o,none⟩=false:=(fun o=>by simp[World.frozen?,HK3.out]);clear hx3 hg3 hk3)|(go_at_call 123;rw[←HW.out];refine hsp.mono ?_;rintro r w2 ⟨rfl,hb2⟩;have HP:Hid (PB w2 w.heap.size ⟨q0,q1,q2,y0,y1,y2,y3,r0,0,r2⟩):=HP1.out.keep (fun j h1 h2=>hb2.block j (by omega));have HB2:Hid (Below w.heap.size w w2):=HB1.out.trans (hb2.mono (by omega));clear hb2;obtain⟨p0,p1,p2,p3,p4,p5⟩:=box6' HP.out.k0))
 obtain⟨W,hW⟩:∃ W,W=S9 w3 (w.heap.size+1) X.1:=⟨_,rfl⟩;have hW2:=hW;simp only[S9] at hW2;rw[←hW2];have hq:W.heap[(w.heap.size+1)]?=some (.cells (pcC X.1) 152):=(by rw[hW];exact S9_own _ HK3.out);obtain⟨r0,r1,r2,r3,r4,r5,r6,r7,r8⟩:=box9 hq;refine bodyPost_ret (v:=pcV X.1) (by simp[results,Tryz.results176,go_sem,r0,r1,r2,r3,r4,r5,r6,r7,r8]) rfl ⟨rfl,vb3,vf3,?_,?_⟩
 ·rw[hW]
  exact ExAt.put HX3.out HN3.out _
 ·rw[hW]
  exact Grw.put HG3.out (by omega) _
theorem part_times (g:List (List Prt)) (S:Nat→Bool) (cs:List Cnt) (c:Cnt) (hp:SpPK (.mk g S (cs++[c]))) (ht:TimesK (.mk g S cs) c) (hz:spP (.mk g S (cs++[c]))≠0) (w:World) (sb:Nat) (vb vf:Value) (e:Ex) (n:Nat) (s:Sx.SixV) (h:Beg w sb vb vf e n (spP (.mk g S (cs++[c])))) (hR:Sx.RepP w (fun g=>g<sb) (.mk g S (cs++[c])) s.cells) :
  Calls Tryz.prog 176 #[.pointer (some ⟨sb,0,none⟩),s.val] w (MkRes sb w vb vf (timesM (exP (.mk g S cs)) c e)):=by
 have HH:Hid (Beg w sb vb vf e n (spP (.mk g S (cs++[c])))):=h
 obtain⟨hrg,hwd,hrc⟩:=six_rep hR
 obtain⟨a2,c2,e2,hcl⟩:=cnt_form hrc
 simp only[Value.slice.injEq,List.length_append,List.length_cons,List.length_nil,Nat.zero_add] at e2 hcl
 have hr1:s.r1=cs.length+1:=e2.2.1
 obtain⟨q0,q1,q2,y0,y1,y2,y3,r0,r1,r2⟩:=s
 simp only at hr1
 subst hr1
 clear e2
 simp only[List.length_append,List.length_cons,List.length_nil,Nat.zero_add] at hrg hwd hrc
 obtain⟨g2,cap2,er,hg2,hcap,hcapm⟩:=hrc.form (by omega)
 simp only[Value.slice.injEq,true_and] at er
 obtain⟨rfl,rfl⟩:=er
 have hcut:=cnt_cut hrc
 have hrc':Sx.RowIn w (fun g=>g<sb) 282 3 (.slice (some ⟨g2,0,none⟩) (cs++[c]).length r2) (cs++[c]).length ((cs++[c]).flatMap Sx.cntCells):=by simpa using hrc
 obtain⟨g3,eg,-,d0,d1,d2⟩:=cnt_at hrc' (i:=cs.length) (by simp)
 simp only[Option.some.injEq,Addr.mk.injEq,and_true] at eg
 subst eg
 simp only[List.getElem_concat_length] at d0 d1 d2
 obtain⟨N,hN⟩:∃ N,N=cs.length:=⟨_,rfl⟩
 rw[←hN] at hcl hrc hcut d0 d1 d2 hcap hR ⊢
 have HRT:Hid (∀ w2,Below w.heap.size w w2→Sx.RepP w2 (fun g=>g<sb) (.mk g S cs) (Sx.SixV.cells ⟨q0,q1,q2,y0,y1,y2,y3,(some ⟨g2,0,none⟩),N,r2⟩)):=fun w2 hb=>by
  refine repP_keep ?_ (hb.mono (Nat.le_of_lt h.sb))
  simp only[Sx.RepP,Sx.SixV.cells]
  refine⟨_,_,_,_,_,_,rfl,hrg,hwd,?_⟩
  rw[hN] at hcut ⊢
  exact hcut
 obtain⟨w1,hw1⟩:∃ w1,w1=(w.alloc (.cells #[.slice q0 q1 q2,.int .u64 y0,.int .u64 y1,.int .u64 y2,.int .u64 y3,.slice (some ⟨g2,0,none⟩) (N+1) r2] 231)).alloc (.cells zC 152):=⟨_,rfl⟩
 have HP1:Hid (PB w1 w.heap.size ⟨q0,q1,q2,y0,y1,y2,y3,(some ⟨g2,0,none⟩),N+1,r2⟩):=by rw[hw1];exact pb_new w ⟨q0,q1,q2,y0,y1,y2,y3,(some ⟨g2,0,none⟩),N+1,r2⟩
 have hb1:Below w.heap.size w w1:=by rw[hw1];exact((Below.refl _ _).alloc (Nat.le_refl _) _).alloc (by simp) _
 have hs1:w1.heap.size=w.heap.size+2:=by rw[hw1];simp
 have hsp:=hp w1 sb _ (by have:=h.sb;omega) (repP_keep hR (hb1.mono (Nat.le_of_lt h.sb)))
 have HB1:Hid (Below w.heap.size w w1):=hb1
 have HW:Hid (w1=(w.alloc (.cells #[.slice q0 q1 q2,.int .u64 y0,.int .u64 y1,.int .u64 y2,.int .u64 y3,.slice (some ⟨g2,0,none⟩) (N+1) r2] 231)).alloc (.cells zC 152)):=hw1
 obtain⟨m,hm⟩:∃ m,m=capN (spP (.mk g S (cs++[c]))):=⟨_,rfl⟩
 have hm0:¬(m:Int)=0:=by rw[hm];unfold capN;omega
 rw[←hm] at hsp
 have hTM:=fun w2 (hb:Below w.heap.size w w2)=>ht w2 sb vb vf e n ⟨q0,q1,q2,y0,y1,y2,y3,(some ⟨g2,0,none⟩),N,r2⟩ ((HH.out.below hb).less (by rw[spP_snoc];exact Nat.le_refl _)) (HRT.out w2 hb)
 obtain⟨X,hX⟩:∃ X,X=timesM (exP (.mk g S cs)) c e:=⟨_,rfl⟩
 rw[←hX] at hTM ⊢
 have HD:Hid (∀ w2,Below w.heap.size w w2→w2.cell? ⟨g2,N*3,none⟩=some (.int .u8 c.sign.toNat)∧w2.cell? ⟨g2,N*3+1,none⟩=some (.int .i64 c.least)∧w2.cell? ⟨g2,N*3+2,none⟩=some (.int .i64 c.most)):=fun w2 hb=>⟨cell_below hb d0,cell_below hb d1,cell_below hb d2⟩
 have HSB:Hid (sb<w.heap.size):=h.sb
 unfold maxLen at hcl
 have hr2:N<r2:=by omega
 have hcI:(N:Int)≤r2:=by omega
 clear hw1 hb1 h hR hz hm hrg hrc hwd hrc' hcut d0 d1 d2 hX hN hcapm
 go_enter Tryz.func176,Tryz.ntmps176
 go_wp2_with (first|(go_at_call 199;obtain⟨w3,hw3⟩:∃ w3,w3=(w2.alloc (.cells #[.int .u8 c.sign.toNat,.int .i64 c.least,.int .i64 c.most] 282)).setCell ⟨w.heap.size,5,none⟩ (.slice (some ⟨g2,0,none⟩) N r2):=⟨_,rfl⟩;have hb3:Below w.heap.size w w3:=(by rw[hw3];exact(HB2.out.alloc HB2.out.size _).setCell (p:=⟨w.heap.size,5,none⟩) (Nat.le_refl _) _);have hz3:w3.heap[w.heap.size+1]?=some (.cells zC 152):=(by rw[hw3,set_blk _ _ _ _ (by omega)];exact(HP.out.al _).k1);rw[←hw3];refine(hTM w3 hb3).mono ?_;rintro r w4 ⟨rfl,vb3,vf3,hx3,hg3⟩;have HX3:Hid (ExAt w4 sb vb3 vf3 X.2):=hx3;have HG3:Hid (Grw sb w vb vf w4 vb3 vf3):=((Grw.of_below hb3).trans hg3);have hz3l:=(Array.getElem?_eq_some_iff.1 hz3).1;have HK3:Hid (w4.heap[w.heap.size+1]?=some (.cells zC 152)):=(hg3.same hz3l (fun q=>by have:=(HH.out.lt q).2;omega)).trans hz3;have HN3:Hid (¬ EFoot sb vb3 vf3 (w.heap.size+1)):=(fun q=>by rcases hg3.new _ q with q'|q';have:=(HH.out.lt q').2;omega;omega);clear z0 z1 z2 z3 z4 z5 z6 z7 z8 zf;obtain⟨z0,z1,z2,z3,z4,z5,z6,z7,z8⟩:=box9z HK3.out;have zf:∀ o,World.frozen? w4 ⟨w.heap.size+1,o,none⟩=false:=(fun o=>by simp[World.frozen?,HK3.out]);clear hx3 hg3 hz3 hb3 hw3)|(go_at_call 123;rw[←HW.out];refine hsp.mono ?_;rintro r w2 ⟨rfl,hb2⟩;have HP:Hid (PB w2 w.heap.size ⟨q0,q1,q2,y0,y1,y2,y3,(some ⟨g2,0,none⟩),N+1,r2⟩):=HP1.out.keep (fun j h1 h2=>hb2.block j (by omega));have HB2:Hid (Below w.heap.size w w2):=HB1.out.trans (hb2.mono (by omega));clear hb2;obtain⟨p0,p1,p2,p3,p4,p5⟩:=box6' HP.out.k0;obtain⟨z0,z1,z2,z3,z4,z5,z6,z7,z8⟩:=box9z HP.out.k1;have zf:∀ o,World.frozen? w2 ⟨w.heap.size+1,o,none⟩=false:=(fun o=>by simp[World.frozen?,HP.out.k1]);have pf:∀ o,World.frozen? w2 ⟨w.heap.size,o,none⟩=false:=(fun o=>by simp[World.frozen?,HP.out.k0]);have paa:=(fun ob=>box6' (HP.out.al ob).k0);have pff:=(fun ob=>(fun o=>by simp[World.frozen?,(HP.out.al ob).k0]:∀ o,World.frozen? (w2.alloc ob) ⟨w.heap.size,o,none⟩=false));simp only at paa;obtain⟨d0,d1,d2⟩:=HD.out w2 HB2.out;have hltP:=HP.out.lt))
 obtain⟨W,hW⟩:∃ W,W=S9 w4 (w.heap.size+1) X.1:=⟨_,rfl⟩;have hW2:=hW;simp only[S9] at hW2;rw[←hW2];have hq:W.heap[(w.heap.size+1)]?=some (.cells (pcC X.1) 152):=(by rw[hW];exact S9_own _ HK3.out);obtain⟨r0,r1,r2,r3,r4,r5,r6,r7,r8⟩:=box9 hq;refine bodyPost_ret (v:=pcV X.1) (by simp[results,Tryz.results176,go_sem,r0,r1,r2,r3,r4,r5,r6,r7,r8]) rfl ⟨rfl,vb3,vf3,?_,?_⟩
 ·rw[hW]
  exact ExAt.put HX3.out HN3.out _
 ·rw[hW]
  exact Grw.put HG3.out (by omega) _
theorem part_of (g:List (List Prt)) (S:Nat→Bool) (ha:AtomK g S) (ht:∀ cs c,(∀ x∈cs,CntOk x)→PartK (.mk g S cs)→CntOk c→TimesK (.mk g S cs) c) (hg:SpCsK g):∀(k:Nat) (cs:List Cnt),cs.length=k→(∀ c∈cs,CntOk c)→PartK (.mk g S cs)
 |0,cs,hk,hc=>by
  obtain rfl:=List.eq_nil_of_length_eq_zero hk
  intro w sb vb vf e n s h hR
  have hp:=spP_step g S [] hg hc
  by_cases hz:spP (.mk g S [])=0
  ·rw[exP_zero hz];exact part_zero _ hp hz w sb vb vf e n s h hR
  ·rw[exP_nil hz];exact part_atom g S hp ha hz w sb vb vf e n s h hR
 |k+1,cs,hk,hc=>by
  intro w sb vb vf e n s h hR
  have hp:=spP_step g S cs hg hc
  by_cases hz:spP (.mk g S cs)=0
  ·rw[exP_zero hz];exact part_zero _ hp hz w sb vb vf e n s h hR
  ·have hne:cs≠[]:=by rintro rfl;simp at hk
   obtain⟨ds,c,rfl⟩:∃ ds c,cs=ds++[c]:=⟨cs.dropLast,cs.getLast hne,(List.dropLast_concat_getLast hne).symm⟩
   rw[exP_snoc hz]
   exact part_times g S ds c hp (ht ds c (fun x hx=>hc x (by simp[hx])) (part_of g S ha ht hg k ds (by simpa using hk) (fun x hx=>hc x (by simp[hx]))) (hc c (by simp))) hz w sb vb vf e n s h hR
theorem atom_group (g:List (List Prt)) (S:Nat→Bool) (hne:g≠[]) (hg:ChoicesK g) (w:World) (sb:Nat) (vb vf:Value) (e:Ex) (n:Nat) (s:Sx.SixV) (h:Beg w sb vb vf e n (spCs g)) (hR:Sx.RepCs w (fun g=>g<sb) g (.slice s.q0 s.q1 s.q2)) :
  Calls Tryz.prog 198 #[.pointer (some ⟨sb,0,none⟩),atV s] w (MkRes sb w vb vf (exCs g pc0 e)):=by
 have HH:Hid (Beg w sb vb vf e n (spCs g)):=h
 obtain⟨a1,c1,e1,hgl⟩:=repCs_form hR
 simp only[Value.slice.injEq] at e1
 obtain⟨q0,q1,q2,y0,y1,y2,y3,r0,r1,r2⟩:=s
 simp only at e1 hR
 obtain⟨-,rfl,-⟩:=e1
 have hlen:0<g.length:=List.length_pos_iff.2 hne
 obtain⟨N,hN⟩:∃ N,N=g.length:=⟨_,rfl⟩
 unfold maxLen at hgl
 rw[←hN] at hlen hgl hR ⊢
 have hNI:(0:Int)<N:=by omega
 obtain⟨w1,hw1⟩:∃ w1,w1=(w.alloc (.cells #[.slice q0 N q2,.int .u64 y0,.int .u64 y1,.int .u64 y2,.int .u64 y3] 228)).alloc (.cells zC 152):=⟨_,rfl⟩
 have hb1:Below w.heap.size w w1:=by rw[hw1];exact((Below.refl _ _).alloc (Nat.le_refl _) _).alloc (by simp) _
 have hk1:w1.heap[w.heap.size+1]?=some (.cells zC 152):=by
  rw[hw1]
  have:=heap_alloc_new (w.alloc (.cells #[.slice q0 N q2,.int .u64 y0,.int .u64 y1,.int .u64 y2,.int .u64 y3] 228)) (.cells zC 152)
  simpa using this
 have hs1:w1.heap.size=w.heap.size+2:=by rw[hw1];simp
 have hcall:=hg w1 sb vb vf e n _ (h.below hb1) (repCs_keep hR (hb1.mono (Nat.le_of_lt h.sb)))
 have HB1:Hid (Below w.heap.size w w1):=hb1
 have HW:Hid (w1=(w.alloc (.cells #[.slice q0 N q2,.int .u64 y0,.int .u64 y1,.int .u64 y2,.int .u64 y3] 228)).alloc (.cells zC 152)):=hw1
 have HK1:Hid (w1.heap[w.heap.size+1]?=some (.cells zC 152)):=hk1
 obtain⟨X,hX⟩:∃ X,X=exCs g pc0 e:=⟨_,rfl⟩
 rw[←hX] at hcall ⊢
 clear hw1 hb1 hk1 h hR hne hg hN hX
 go_enter Tryz.func198,Tryz.ntmps198
 go_wp2_with (go_at_call 73;rw[←HW.out];refine hcall.mono ?_;rintro r w3 ⟨rfl,vb3,vf3,hx3,hg3⟩;have HX3:Hid (ExAt w3 sb vb3 vf3 X.2):=hx3;have HG3:Hid (Grw sb w vb vf w3 vb3 vf3):=((Grw.of_below HB1.out).trans hg3);have HK3:Hid (w3.heap[w.heap.size+1]?=some (.cells zC 152)):=(hg3.same (by omega) (fun q=>by have:=(HH.out.lt q).2;omega)).trans HK1.out;have HN3:Hid (¬ EFoot sb vb3 vf3 (w.heap.size+1)):=(fun q=>by rcases hg3.new _ q with q'|q';have:=(HH.out.lt q').2;omega;omega);obtain⟨z0,z1,z2,z3,z4,z5,z6,z7,z8⟩:=box9z HK3.out;have zf:∀ o,World.frozen? w3 ⟨w.heap.size+1,o,none⟩=false:=(fun o=>by simp[World.frozen?,HK3.out]);clear hx3 hg3)
 obtain⟨W,hW⟩:∃ W,W=S9 w3 (w.heap.size+1) X.1:=⟨_,rfl⟩;have hW2:=hW;simp only[S9] at hW2;rw[←hW2];have hq:W.heap[(w.heap.size+1)]?=some (.cells (pcC X.1) 152):=(by rw[hW];exact S9_own _ HK3.out);obtain⟨r0,r1,r2,r3,r4,r5,r6,r7,r8⟩:=box9 hq;refine bodyPost_ret (v:=pcV X.1) (by simp[results,Tryz.results198,go_sem,r0,r1,r2,r3,r4,r5,r6,r7,r8]) rfl ⟨rfl,vb3,vf3,?_,?_⟩
 ·rw[hW]
  exact ExAt.put HX3.out HN3.out _
 ·rw[hW]
  exact Grw.put HG3.out (by omega) _
theorem atom_of (g:List (List Prt)) (S:Nat→Bool) (hg:ChoicesK g):AtomK g S:=by
 intro w sb vb vf e n s h hR hS
 cases g with
 |nil=>
  obtain⟨a1,c1,e1,hgl⟩:=repCs_form hR
  simp only[Value.slice.injEq,List.length_nil] at e1
  have:=atom_new w sb vb vf e s.q0 s.q2 ⟨s.y0,s.y1,s.y2,s.y3⟩ S n h.s1 h.at_ (by have:=h.le;simp[spA] at this;omega) h.ok hS
  rw[show atV s=.agg #[.slice s.q0 0 s.q2,.int .u64 (s.y0:Int),.int .u64 (s.y1:Int),.int .u64 (s.y2:Int),.int .u64 (s.y3:Int)] by rw[←e1.2.1]]
  exact this
 |cons c gs=>
  rw[spA_cons] at h
  exact atom_group (c::gs) S (by simp) hg w sb vb vf e n s h hR
theorem trC_iff:∀ {ps:List Prt},TrOkC ps↔∀ p∈ps,TrOk p
 |[]=>by simp[TrOkC]
 |p::ps=>by simp[TrOkC,trC_iff (ps:=ps)]
theorem trVs_iff:∀ {cs:List (List Prt)},TrOkVs cs↔∀ c∈cs,TrOkC c
 |[]=>by simp[TrOkVs]
 |c::cs=>by simp[TrOkVs,trVs_iff (cs:=cs)]
theorem exC_snoc:∀(ps:List Prt) (p:Prt) (a:Pc) (e:Ex),exC (ps++[p]) a e=((exC ps a e).1.join (exP p (exC ps a e).2).1,(exP p (exC ps a e).2).2.join (exC ps a e).1 (exP p (exC ps a e).2).1)
 |[],p,a,e=>by simp[exC]
 |q::ps,p,a,e=>by simp only[List.cons_append,exC];exact exC_snoc ps p _ _
theorem exCs_snoc:∀(cs:List (List Prt)) (c:List Prt) (a:Pc) (e:Ex),exCs (cs++[c]) a e=((exCs cs a e).1.alt (exC c pcN (exCs cs a e).2).1,(exC c pcN (exCs cs a e).2).2)
 |[],c,a,e=>by simp[exCs]
 |d::cs,c,a,e=>by simp only[List.cons_append,exCs];exact exCs_snoc cs c _ _
structure CB (W:World) (H:Nat) (a:Pc):Prop where
 k0:W.heap[H]?=some (.cells zC 152)
 k1:W.heap[H+1]?=some (.cells (pcC a) 152)
theorem CB.keep {W W':World}{H:Nat}{a:Pc} (h:CB W H a) (k:∀ j,H≤j→j<H+2→W'.heap[j]?=W.heap[j]?):CB W' H a:=⟨(k _ (by omega) (by omega)).trans h.k0,(k _ (by omega) (by omega)).trans h.k1⟩
theorem CB.lt {W:World}{H:Nat}{a:Pc} (h:CB W H a):H+1<W.heap.size:=(Array.getElem?_eq_some_iff.1 h.k1).1
theorem CB.al {W:World}{H:Nat}{a:Pc} (h:CB W H a) (ob:Obj):CB (W.alloc ob) H a:=h.keep (fun j h1 h2=>Below.heap_alloc _ _ _ (by have:=h.lt;omega))
theorem CB.put {W:World}{H:Nat}{a:Pc} (h:CB W H a) (b:Pc):CB (S9 W (H+1) b) H b:=⟨(S9_blk _ _ _ (by omega)).trans h.k0,S9_own _ h.k1⟩
theorem CB.fz {W:World}{H:Nat}{a:Pc} (h:CB W H a) (o:Nat):W.frozen? ⟨H+1,o,none⟩=false∧W.frozen? ⟨H,o,none⟩=false:=⟨by simp[World.frozen?,h.k1],by simp[World.frozen?,h.k0]⟩
structure Rnd (sb:Nat) (w:World) (vb vf:Value) (W:World) (vb' vf':Value) (e:Ex) (a:Pc):Prop where
 at_:ExAt W sb vb' vf' e
 cb:CB W w.heap.size a
 gr:Grw sb w vb vf W vb' vf'
 nw:∀ b,EFoot sb vb' vf' b→(sb≤b∧b<w.heap.size)∨w.heap.size+2≤b
theorem Rnd.below {sb:Nat}{w:World}{vb vf:Value}{W W':World}{vb' vf':Value}{e:Ex}{a:Pc} (h:Rnd sb w vb vf W vb' vf' e a) (hb:Below W.heap.size W W'):Rnd sb w vb vf W' vb' vf' e a:=
 ⟨h.at_.below hb,h.cb.keep (fun j h1 h2=>hb.block j (by have:=h.cb.lt;omega)),h.gr.below hb,h.nw⟩
theorem Rnd.call {sb:Nat}{w:World}{vb vf:Value}{W W':World}{vb' vf' vb2 vf2:Value}{e e2:Ex}{a:Pc} (h:Rnd sb w vb vf W vb' vf' e a) (hx:ExAt W' sb vb2 vf2 e2) (hg:Grw sb W vb' vf' W' vb2 vf2):Rnd sb w vb vf W' vb2 vf2 e2 a:=by
 refine⟨hx,h.cb.keep (fun j h1 h2=>hg.same (by have:=h.cb.lt;omega) (fun q=>by rcases h.nw j q with q'|q'<;>omega)),h.gr.trans hg,fun b hb=>?_⟩
 rcases hg.new b hb with q|q
 ·exact h.nw b q
 ·exact .inr (by have:=h.cb.lt;omega)
theorem Rnd.put {sb:Nat}{w:World}{vb vf:Value}{W:World}{vb' vf':Value}{e:Ex}{a:Pc} (h:Rnd sb w vb vf W vb' vf' e a) (b:Pc):Rnd sb w vb vf (S9 W (w.heap.size+1) b) vb' vf' e b:=
 ⟨h.at_.put (fun q=>by rcases h.nw _ q with q'|q'<;>omega) b,h.cb.put b,h.gr.put (by omega) b,h.nw⟩
theorem Rnd.fin {sb:Nat}{w:World}{vb vf:Value}{W:World}{vb' vf':Value}{e:Ex}{a:Pc} (h:Rnd sb w vb vf W vb' vf' e a) (b:Pc):ExAt (S9 W w.heap.size b) sb vb' vf' e∧Grw sb w vb vf (S9 W w.heap.size b) vb' vf':=
 ⟨h.at_.put (fun q=>by rcases h.nw _ q with q'|q'<;>omega) b,h.gr.put (Nat.le_refl _) b⟩
theorem rnd_new {w:World}{sb:Nat}{vb vf:Value}{e:Ex}{n k:Nat} (h:Beg w sb vb vf e n k) {cs:Array Value}{a:Pc} (hc:cs=pcC a):Rnd sb w vb vf ((w.alloc (.cells zC 152)).alloc (.cells cs 152)) vb vf e a:=by
 have hb:Below w.heap.size w ((w.alloc (.cells zC 152)).alloc (.cells cs 152)):=((Below.refl _ _).alloc (Nat.le_refl _) _).alloc (by simp) _
 refine⟨h.at_.below hb,⟨(Below.heap_alloc _ _ _ (by simp)).trans (heap_alloc_new w _),?_⟩,Grw.of_below hb,fun b hb=>.inl (h.lt hb)⟩
 have:=heap_alloc_new (w.alloc (.cells zC 152)) (.cells cs 152)
 rw[hc] at this ⊢
 simpa using this
theorem chain_of (ps:List Prt) (hok:TrOkC ps) (hp:∀ p∈ps,PartK p):ChainK ps:=by
 intro w sb vb vf e n v h hR
 obtain⟨va,vc,rfl,hlen⟩:=repC_form hR
 have HH:Hid (Beg w sb vb vf e n (spC ps)):=h
 have HR:Hid (Sx.RepC w (fun g=>g<sb) ps (.slice va ps.length vc)):=hR
 have HOK:Hid (∀ k,ExOk (n+spC (ps.take k)) (exC (ps.take k) pcN e).2∧Pcs (n+spC (ps.take k)) (exC (ps.take k) pcN e).1):=fun k=>by
  have h1:spC (ps.take k)≤spC ps:=by
   have:=spC_append (ps.take k) (ps.drop k)
   rw[List.take_append_drop] at this
   omega
  exact exC_ok (ps.take k) (trC_iff.2 (fun p hp'=>trC_iff.1 hok p (List.mem_of_mem_take hp'))) n e pcN (by have:=h.le;omega) h.ok (Pcs.n n)
 have HT:Hid (TrOkC ps):=hok
 have HPK:Hid (∀ p∈ps,PartK p):=hp
 unfold maxLen at hlen
 obtain⟨N,hN⟩:∃ N,N=ps.length:=⟨_,rfl⟩
 rw[←hN] at hlen ⊢
 have HN:Hid (N=ps.length):=hN
 have HS:Hid (sb<w.heap.size):=h.sb
 clear hR hN h hok hp
 go_enter Tryz.func124,Tryz.ntmps124
 go_wp2
 go_loopw [11] (fun i wr=>∃(k:Nat) (vb' vf':Value),k≤N∧i=.int .i64 k∧Rnd sb w vb vf wr vb' vf' (exC (ps.take k) pcN e).2 (exC (ps.take k) pcN e).1) (fun i _=>N-(intOf i).toNat)
 case atStart=>
  refine⟨0,vb,vf,by omega,rfl,?_⟩
  exact rnd_new HH.out rfl
 case round=>
  obtain⟨k,vb1,vf1,hk,rfl,hrn⟩:=hrel
  have hokk:=HOK.out k
  have HE1:Hid (∀ hk:k<ps.length,exC (ps.take (k+1)) pcN e=((exC (ps.take k) pcN e).1.join (exP ps[k] (exC (ps.take k) pcN e).2).1,(exP ps[k] (exC (ps.take k) pcN e).2).2.join (exC (ps.take k) pcN e).1 (exP ps[k] (exC (ps.take k) pcN e).2).1)):=fun hk=>by rw[List.take_succ_eq_append_getElem hk,exC_snoc]
  have HE2:Hid (k=ps.length→exC ps pcN e=((exC (ps.take k) pcN e).1,(exC (ps.take k) pcN e).2)):=fun hk=>by rw[hk,List.take_length]
  obtain⟨A,hA⟩:∃ A,A=(exC (ps.take k) pcN e).1:=⟨_,rfl⟩
  obtain⟨E,hE⟩:∃ E,E=(exC (ps.take k) pcN e).2:=⟨_,rfl⟩
  rw[←hA,←hE] at hrn hokk HE1 HE2
  have HRN:Hid (Rnd sb w vb vf wr vb1 vf1 E A):=hrn
  have HOKK:Hid (ExOk (n+spC (ps.take k)) E∧Pcs (n+spC (ps.take k)) A):=hokk
  obtain⟨a0,a1,a2,a3,a4,a5,a6,a7,a8⟩:=box9 hrn.cb.k1
  obtain⟨z0,z1,z2,z3,z4,z5,z6,z7,z8⟩:=box9z hrn.cb.k0
  have zf:∀ o,wr.frozen? ⟨w.heap.size,o,none⟩=false:=fun o=>(HRN.out.cb.fz o).2
  clear hrn hokk hA hE
  by_cases hlt:k<N
  ·have hltI:(k:Int)<N:=by omega
   have hkp:k<ps.length:=by have:=HN.out;omega
   have hbl:=HH.out.bl HRN.out.gr
   obtain⟨g,s,hga,hg,hcells,hrp⟩:=repC_at (repC_keep HR.out hbl) (i:=k) hkp
   subst hga
   have d0:=hcells 0 (by omega)
   have d1:=hcells 1 (by omega)
   have d2:=hcells 2 (by omega)
   have d3:=hcells 3 (by omega)
   have d4:=hcells 4 (by omega)
   have d5:=hcells 5 (by omega)
   simp only[Sx.SixV.cells,Nat.add_zero,List.getElem?_cons_zero,List.getElem?_cons_succ] at d0 d1 d2 d3 d4 d5
   have hsum:spC (ps.take k)+spP ps[k]≤spC ps:=by
    have h1:=spC_append (ps.take (k+1)) (ps.drop (k+1))
    rw[List.take_append_drop,List.take_succ_eq_append_getElem hkp,spC_append,spC_one] at h1
    omega
   have hbeg:Beg wr sb vb1 vf1 E (n+spC (ps.take k)) (spP ps[k]):=HH.out.on HRN.out.at_ HRN.out.gr HOKK.out.1 (by have:=HH.out.le;omega)
   have hpok:=exP_ok ps[k] (trC_iff.1 HT.out _ (List.getElem_mem _)) (n+spC (ps.take k)) E hbeg.le hbeg.ok
   have hal:Below wr.heap.size wr (wr.alloc (.cells #[.slice s.q0 s.q1 s.q2,.int .u64 s.y0,.int .u64 s.y1,.int .u64 s.y2,.int .u64 s.y3,.slice s.r0 s.r1 s.r2] 231)).drew:=((Below.refl _ _).alloc (Nat.le_refl _) _).drew
   have hpart:=HPK.out ps[k] (List.getElem_mem _) (wr.alloc (.cells #[.slice s.q0 s.q1 s.q2,.int .u64 s.y0,.int .u64 s.y1,.int .u64 s.y2,.int .u64 s.y3,.slice s.r0 s.r1 s.r2] 231)).drew sb vb1 vf1 E (n+spC (ps.take k)) s (hbeg.below hal) (repP_keep hrp (hal.mono (Nat.le_of_lt hbeg.sb)))
   have HE3:=HE1.out hkp
   obtain⟨X,hX⟩:∃ X,X=exP ps[k] E:=⟨_,rfl⟩
   rw[←hX] at hpart hpok HE3
   have HRA:Hid (Rnd sb w vb vf (wr.alloc (.cells #[.slice s.q0 s.q1 s.q2,.int .u64 s.y0,.int .u64 s.y1,.int .u64 s.y2,.int .u64 s.y3,.slice s.r0 s.r1 s.r2] 231)).drew vb1 vf1 E A):=HRN.out.below hal
   have HEX:Hid (exC (ps.take (k+1)) pcN e=(A.join X.1,X.2.join A X.1)):=HE3
   have HPOK:Hid (ExOk (n+spC (ps.take k)+spP ps[k]) X.2∧Pcs (n+spC (ps.take k)+spP ps[k]) X.1):=hpok
   have HTZ:Hid (∀ w2 vb2 vf2,Rnd sb w vb vf w2 vb2 vf2 X.2 A→TabZ w2):=fun w2 vb2 vf2 hr=>(HH.out.on hr.at_ hr.gr hpok.1 (k':=0) hbeg.le).tz
   have HLE:Hid (n+spC (ps.take k)+spP ps[k]≤64):=hbeg.le
   have hs1:=hbeg.s1
   have hltc:=HRN.out.cb.lt
   have aa:=fun ob=>box9 (HRN.out.cb.al ob).k1
   clear hcells hrp hX hpok hbeg hbl HE3 hsum hal HE1 HE2
   go_wp2
   go_region_with (first|(go_at_call 175;refine(join_any w2 sb vb2 vf2 X.2 A X.1 (n+spC (ps.take k)+spP ps[k]) (HTZ.out _ _ _ HR2.out) hs1 HR2.out.at_ HLE.out HPOK.out.1 (HOKK.out.2.mono (by omega)) HPOK.out.2).mono ?_;rintro r w3 ⟨rfl,hx3,hg3⟩;have HR3:Hid (Rnd sb w vb vf w3 vb2 vf2 (X.2.join A X.1) A):=HR2.out.call hx3 hg3;obtain⟨f0,f1,f2,f3,f4,f5,f6,f7,f8⟩:=box9 HR3.out.cb.k1;have ff:∀ o,w3.frozen? ⟨w.heap.size+1,o,none⟩=false:=(fun o=>(HR3.out.cb.fz o).1);clear hx3 hg3)|(go_at_call 176;refine hpart.mono ?_;rintro r w2 ⟨rfl,vb2,vf2,hx2,hg2⟩;have HR2:Hid (Rnd sb w vb vf w2 vb2 vf2 X.2 A):=HRA.out.call hx2 hg2;obtain⟨e0,e1,e2,e3,e4,e5,e6,e7,e8⟩:=box9 HR2.out.cb.k1;clear hx2 hg2))
   all_goals (
    obtain⟨W,hW⟩:∃ W,W=S9 w3 (w.heap.size+1) (A.join X.1):=⟨_,rfl⟩
    have hW2:=hW
    simp only[S9] at hW2
    rw[←hW2]
    have HR4:Hid (Rnd sb w vb vf W vb2 vf2 (X.2.join A X.1) (A.join X.1)):=by rw[hW];exact HR3.out.put _
    clear hW hW2 f0 f1 f2 f3 f4 f5 f6 f7 f8 ff
    go_wp2
    go_roundw
    case rel=>exact⟨k+1,vb2,vf2,by omega,by go_num,by rw[HEX.out];exact HR4.out⟩
    case measure=>simp[intOf]<;>omega)
  ·have hkI:¬(k:Int)<N:=by omega
   have HE3:=HE2.out (by have:=HN.out;omega)
   have HEX:Hid (exC ps pcN e=(A,E)):=HE3
   clear HE3 HE1 HE2
   go_wp2
   obtain⟨W,hW⟩:∃ W,W=S9 wr w.heap.size A:=⟨_,rfl⟩
   have hW2:=hW
   simp only[S9] at hW2
   rw[←hW2]
   have hq:W.heap[w.heap.size]?=some (.cells (pcC A) 152):=by rw[hW];exact S9_own _ HRN.out.cb.k0
   obtain⟨r0,r1,r2,r3,r4,r5,r6,r7,r8⟩:=box9 hq
   refine bodyPost_ret (v:=pcV A) (by simp[results,Tryz.results124,go_sem,r0,r1,r2,r3,r4,r5,r6,r7,r8]) rfl ?_
   rw[HEX.out]
   refine⟨rfl,vb1,vf1,?_⟩
   rw[hW]
   exact HRN.out.fin _
theorem Rnd.own {sb:Nat}{w:World}{vb vf:Value}{W W':World}{vb' vf':Value}{e:Ex}{a b:Pc} (h:Rnd sb w vb vf W vb' vf' e a) (hx:Exc (fun k=>k=w.heap.size+1) W W') (hk:W'.heap[w.heap.size+1]?=some (.cells (pcC b) 152)):Rnd sb w vb vf W' vb' vf' e b:=by
 have hl:=h.cb.lt
 have hs:=h.gr.exc.size
 refine⟨h.at_.keep (fun j hj=>hx.block j (h.at_.lt hj).2 (fun q=>by rcases h.nw j hj with q'|q'<;>omega)),⟨(hx.block _ (by omega) (by omega)).trans h.cb.k0,hk⟩,⟨⟨hx.os.trans h.gr.exc.os,hx.tape.trans h.gr.exc.tape,hx.output.trans h.gr.exc.output,Nat.le_trans hs hx.size,fun j hj hS=>(hx.block j (by omega) (by omega)).trans (h.gr.exc.block j hj hS)⟩,h.gr.new,fun hsb o ho=>(cell_same (hx.block sb (by omega) (by omega)) o).trans (h.gr.cl hsb o ho)⟩,h.nw⟩
structure OB (W:World) (P:Nat) (x:Pc):Prop where
 k:W.heap[P]?=some (.cells (pcC x) 152)
theorem choices_of (cs:List (List Prt)) (hok:TrOkVs cs) (hp:∀ c∈cs,ChainK c):ChoicesK cs:=by
 intro w sb vb vf e n v h hR
 obtain⟨va,vc,rfl,hlen⟩:=repCs_form hR
 have HH:Hid (Beg w sb vb vf e n (spCs cs)):=h
 have HRC:Hid (Sx.RepCs w (fun g=>g<sb) cs (.slice va cs.length vc)):=hR
 have HOK:Hid (∀ k,ExOk (n+spCs (cs.take k)) (exCs (cs.take k) pc0 e).2∧Pcs (n+spCs (cs.take k)) (exCs (cs.take k) pc0 e).1):=fun k=>by
  have h1:spCs (cs.take k)≤spCs cs:=by
   have:=spCs_append (cs.take k) (cs.drop k)
   rw[List.take_append_drop] at this
   omega
  exact exCs_ok (cs.take k) (trVs_iff.2 (fun p hp'=>trVs_iff.1 hok p (List.mem_of_mem_take hp'))) n e pc0 (by have:=h.le;omega) h.ok (Pcs.zero n)
 have HT:Hid (TrOkVs cs):=hok
 have HPK:Hid (∀ p∈cs,ChainK p):=hp
 unfold maxLen at hlen
 obtain⟨N,hN⟩:∃ N,N=cs.length:=⟨_,rfl⟩
 rw[←hN] at hlen ⊢
 have HN:Hid (N=cs.length):=hN
 have HS:Hid (sb<w.heap.size):=h.sb
 clear hR hN h hok hp
 go_enter Tryz.func73,Tryz.ntmps73
 go_wp2
 go_loopw [11] (fun i wr=>∃(k:Nat) (vb' vf':Value),k≤N∧i=.int .i64 k∧Rnd sb w vb vf wr vb' vf' (exCs (cs.take k) pc0 e).2 (exCs (cs.take k) pc0 e).1) (fun i _=>N-(intOf i).toNat)
 case atStart=>
  refine⟨0,vb,vf,by omega,rfl,?_⟩
  exact rnd_new HH.out rfl
 case round=>
  obtain⟨k,vb1,vf1,hk,rfl,hrn⟩:=hrel
  have hokk:=HOK.out k
  have HE1:Hid (∀ hk:k<cs.length,exCs (cs.take (k+1)) pc0 e=((exCs (cs.take k) pc0 e).1.alt (exC cs[k] pcN (exCs (cs.take k) pc0 e).2).1,(exC cs[k] pcN (exCs (cs.take k) pc0 e).2).2)):=fun hk=>by rw[List.take_succ_eq_append_getElem hk,exCs_snoc]
  have HE2:Hid (k=cs.length→exCs cs pc0 e=((exCs (cs.take k) pc0 e).1,(exCs (cs.take k) pc0 e).2)):=fun hk=>by rw[hk,List.take_length]
  obtain⟨A,hA⟩:∃ A,A=(exCs (cs.take k) pc0 e).1:=⟨_,rfl⟩
  obtain⟨E,hE⟩:∃ E,E=(exCs (cs.take k) pc0 e).2:=⟨_,rfl⟩
  rw[←hA,←hE] at hrn hokk HE1 HE2
  by_cases hlt:k<N
  ·have hltI:(k:Int)<N:=by omega
   have hkp:k<cs.length:=by have:=HN.out;omega
   have hbl:=HH.out.bl hrn.gr
   obtain⟨g,b,c,hga,hg,hcell,hrc⟩:=repCs_at (repCs_keep HRC.out hbl) (i:=k) hkp
   subst hga
   have hsum:spCs (cs.take k)+spC cs[k]≤spCs cs:=by
    have h1:=spCs_append (cs.take (k+1)) (cs.drop (k+1))
    rw[List.take_append_drop,List.take_succ_eq_append_getElem hkp,spCs_append,spCs_one] at h1
    omega
   have hbeg:Beg wr sb vb1 vf1 E (n+spCs (cs.take k)) (spC cs[k]):=HH.out.on hrn.at_ hrn.gr hokk.1 (by have:=HH.out.le;omega)
   have hpok:=exC_ok cs[k] (trVs_iff.1 HT.out _ (List.getElem_mem _)) (n+spCs (cs.take k)) E pcN hbeg.le hbeg.ok (Pcs.n _)
   have hch:=HPK.out cs[k] (List.getElem_mem _) wr sb vb1 vf1 E (n+spCs (cs.take k)) _ hbeg hrc
   have HE3:=HE1.out hkp
   have hX:=pcs_ok hpok.2 hbeg.le
   have hAok:=pcs_ok (hokk.2.mono (by omega:_≤n+spCs (cs.take k)+spC cs[k])) hbeg.le
   obtain⟨X,hXe⟩:∃ X,X=exC cs[k] pcN E:=⟨_,rfl⟩
   rw[←hXe] at hch hpok HE3 hX
   clear hpok hbeg hbl hsum HE1 HE2 hXe hokk
   obtain⟨M,hM⟩:∃ M,M=cs[k].length:=⟨_,rfl⟩
   rw[←hM] at hch hcell
   clear hrc hM hE hA
   obtain⟨⟨xf,xl,xe⟩,X2⟩:=X
   obtain⟨af,al,ae⟩:=A
   have hA:=hAok
   clear hAok
   simp only at hX hA hch HE3
   cases ae
   ·have HRN:Hid (Rnd sb w vb vf wr vb1 vf1 E ⟨af,al,false⟩):=hrn
    have HEX:Hid (exCs (cs.take (k+1)) pc0 e=(⟨af.or xf,al.or xl,xe⟩,X2)):=by show _=_;rw[HE3];simp[Pc.alt]
    clear HE3 hrn
    go_wp2_with (first|(go_at_call 125;refine(addAllS_any w4 (w.heap.size+1) 4 al xl hA.2 hX.2 (at_last HR4.out.cb.k1)).mono ?_;rintro r w5 ⟨rfl,hx5,hf5⟩;have HR5:Hid (Rnd sb w vb vf w5 vb2 vf2 X2 {({(⟨af,al,false⟩:Pc) with first:=af.or xf}:Pc) with last:=al.or xl}):=HR4.out.own hf5.exc (put_last HR4.out.cb.k1 hx5 hf5);have HO5:Hid (OB w5 w2.heap.size ⟨xf,xl,xe⟩):=⟨(hf5.four.block _ (Array.getElem?_eq_some_iff.1 HO4.out.k).1 (by omega)).trans HO4.out.k⟩;clear HR HO a0 a1 a2 a3 a4 a5 a6 a7 a8 o0 o1 o2 o3 o4 o5 o6 o7 o8;have HR:=HR5;have HO:=HO5;clear hx5 hf5;obtain⟨o0,o1,o2,o3,o4,o5,o6,o7,o8⟩:=box9 HO.out.k;obtain⟨a0,a1,a2,a3,a4,a5,a6,a7,a8⟩:=box9 HR.out.cb.k1;simp only at a8 o8;have ff:∀ o,w5.frozen? ⟨w.heap.size+1,o,none⟩=false:=(fun o=>(HR5.out.cb.fz o).1))|(go_at_call 125;obtain⟨w3,hw3⟩:∃ w3,w3=w2.alloc (.cells (pcC ⟨xf,xl,xe⟩) 152):=⟨_,rfl⟩;have hr3:Rnd sb w vb vf w3 vb2 vf2 X2 ⟨af,al,false⟩:=(by rw[hw3];exact HR2.out.below ((Below.refl _ _).alloc (Nat.le_refl _) _));have ho3:OB w3 w2.heap.size ⟨xf,xl,xe⟩:=⟨by rw[hw3];exact heap_alloc_new w2 _⟩;rw[←hw3];refine(addAllS_any w3 (w.heap.size+1) 0 af xf hA.1 hX.1 (at_first hr3.cb.k1)).mono ?_;rintro r w4 ⟨rfl,hx4,hf4⟩;have HR4:Hid (Rnd sb w vb vf w4 vb2 vf2 X2 {(⟨af,al,false⟩:Pc) with first:=af.or xf}):=hr3.own hf4.exc (put_first hr3.cb.k1 hx4 hf4);have HO4:Hid (OB w4 w2.heap.size ⟨xf,xl,xe⟩):=⟨(hf4.four.block _ (Array.getElem?_eq_some_iff.1 ho3.k).1 (by omega)).trans ho3.k⟩;have HR:=HR4;have HO:=HO4;clear hw3 hr3 ho3 hx4 hf4;obtain⟨o0,o1,o2,o3,o4,o5,o6,o7,o8⟩:=box9 HO.out.k;obtain⟨a0,a1,a2,a3,a4,a5,a6,a7,a8⟩:=box9 HR.out.cb.k1;simp only at a8 o8)|(go_at_call 124;refine hch.mono ?_;rintro r w2 ⟨rfl,vb2,vf2,hx2,hg2⟩;have HR2:Hid (Rnd sb w vb vf w2 vb2 vf2 X2 ⟨af,al,false⟩):=HRN.out.call hx2 hg2;have hlt2:=HR2.out.cb.lt;clear hx2 hg2))
    have HR6:Hid (Rnd sb w vb vf (w5.setCell ⟨w.heap.size+1,8,none⟩ (.bool xe)) vb2 vf2 X2 ⟨af.or xf,al.or xl,xe⟩):=HR5.out.own (exc_set rfl) ((set_own HR5.out.cb.k1).trans (by simp))
    go_roundw
    case rel=>exact⟨k+1,vb2,vf2,by omega,by go_num,by rw[HEX.out];exact HR6.out⟩
    case measure=>simp[intOf]<;>omega
   ·have HRN:Hid (Rnd sb w vb vf wr vb1 vf1 E ⟨af,al,true⟩):=hrn
    have HEX:Hid (exCs (cs.take (k+1)) pc0 e=(⟨af.or xf,al.or xl,true⟩,X2)):=by show _=_;rw[HE3];simp[Pc.alt]
    clear HE3 hrn
    go_wp2_with (first|(go_at_call 125;refine(addAllS_any w4 (w.heap.size+1) 4 al xl hA.2 hX.2 (at_last HR4.out.cb.k1)).mono ?_;rintro r w5 ⟨rfl,hx5,hf5⟩;have HR5:Hid (Rnd sb w vb vf w5 vb2 vf2 X2 {({(⟨af,al,true⟩:Pc) with first:=af.or xf}:Pc) with last:=al.or xl}):=HR4.out.own hf5.exc (put_last HR4.out.cb.k1 hx5 hf5);have HO5:Hid (OB w5 w2.heap.size ⟨xf,xl,xe⟩):=⟨(hf5.four.block _ (Array.getElem?_eq_some_iff.1 HO4.out.k).1 (by omega)).trans HO4.out.k⟩;clear HR HO a0 a1 a2 a3 a4 a5 a6 a7 a8 o0 o1 o2 o3 o4 o5 o6 o7 o8;have HR:=HR5;have HO:=HO5;clear hx5 hf5;obtain⟨o0,o1,o2,o3,o4,o5,o6,o7,o8⟩:=box9 HO.out.k;obtain⟨a0,a1,a2,a3,a4,a5,a6,a7,a8⟩:=box9 HR.out.cb.k1;simp only at a8 o8;have ff:∀ o,w5.frozen? ⟨w.heap.size+1,o,none⟩=false:=(fun o=>(HR5.out.cb.fz o).1))|(go_at_call 125;obtain⟨w3,hw3⟩:∃ w3,w3=w2.alloc (.cells (pcC ⟨xf,xl,xe⟩) 152):=⟨_,rfl⟩;have hr3:Rnd sb w vb vf w3 vb2 vf2 X2 ⟨af,al,true⟩:=(by rw[hw3];exact HR2.out.below ((Below.refl _ _).alloc (Nat.le_refl _) _));have ho3:OB w3 w2.heap.size ⟨xf,xl,xe⟩:=⟨by rw[hw3];exact heap_alloc_new w2 _⟩;rw[←hw3];refine(addAllS_any w3 (w.heap.size+1) 0 af xf hA.1 hX.1 (at_first hr3.cb.k1)).mono ?_;rintro r w4 ⟨rfl,hx4,hf4⟩;have HR4:Hid (Rnd sb w vb vf w4 vb2 vf2 X2 {(⟨af,al,true⟩:Pc) with first:=af.or xf}):=hr3.own hf4.exc (put_first hr3.cb.k1 hx4 hf4);have HO4:Hid (OB w4 w2.heap.size ⟨xf,xl,xe⟩):=⟨(hf4.four.block _ (Array.getElem?_eq_some_iff.1 ho3.k).1 (by omega)).trans ho3.k⟩;have HR:=HR4;have HO:=HO4;clear hw3 hr3 ho3 hx4 hf4;obtain⟨o0,o1,o2,o3,o4,o5,o6,o7,o8⟩:=box9 HO.out.k;obtain⟨a0,a1,a2,a3,a4,a5,a6,a7,a8⟩:=box9 HR.out.cb.k1;simp only at a8 o8)|(go_at_call 124;refine hch.mono ?_;rintro r w2 ⟨rfl,vb2,vf2,hx2,hg2⟩;have HR2:Hid (Rnd sb w vb vf w2 vb2 vf2 X2 ⟨af,al,true⟩):=HRN.out.call hx2 hg2;have hlt2:=HR2.out.cb.lt;clear hx2 hg2))
    have HR6:Hid (Rnd sb w vb vf (w5.setCell ⟨w.heap.size+1,8,none⟩ (.bool true)) vb2 vf2 X2 ⟨af.or xf,al.or xl,true⟩):=HR5.out.own (exc_set rfl) ((set_own HR5.out.cb.k1).trans (by simp))
    go_roundw
    case rel=>exact⟨k+1,vb2,vf2,by omega,by go_num,by rw[HEX.out];exact HR6.out⟩
    case measure=>simp[intOf]<;>omega
  ·have hkI:¬(k:Int)<N:=by omega
   have HE3:=HE2.out (by have:=HN.out;omega)
   have HEX:Hid (exCs cs pc0 e=(A,E)):=HE3
   have HRN:Hid (Rnd sb w vb vf wr vb1 vf1 E A):=hrn
   obtain⟨a0,a1,a2,a3,a4,a5,a6,a7,a8⟩:=box9 hrn.cb.k1
   obtain⟨z0,z1,z2,z3,z4,z5,z6,z7,z8⟩:=box9z hrn.cb.k0
   have zf:∀ o,wr.frozen? ⟨w.heap.size,o,none⟩=false:=fun o=>(HRN.out.cb.fz o).2
   clear HE3 HE1 HE2 hrn hokk hA hE
   go_wp2
   obtain⟨W,hW⟩:∃ W,W=S9 wr w.heap.size A:=⟨_,rfl⟩
   have hW2:=hW
   simp only[S9] at hW2
   rw[←hW2]
   have hq:W.heap[w.heap.size]?=some (.cells (pcC A) 152):=by rw[hW];exact S9_own _ HRN.out.cb.k0
   obtain⟨r0,r1,r2,r3,r4,r5,r6,r7,r8⟩:=box9 hq
   refine bodyPost_ret (v:=pcV A) (by simp[results,Tryz.results73,go_sem,r0,r1,r2,r3,r4,r5,r6,r7,r8]) rfl ?_
   rw[HEX.out]
   refine⟨rfl,vb1,vf1,?_⟩
   rw[hW]
   exact HRN.out.fin _
end Go.Proofs.YtbjabpodkaokjaaGreatDoor

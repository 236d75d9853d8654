import Derived.Test.YtbjabpodkaokjaaGreatDoorJ20
import Derived.Test.YtbjabpodkaokjaaGreatDoorJ09
import Derived.Test.YtbjabpodkaokjaaGreatDoorJ13
set_option linter.unusedVariables false
set_option linter.unusedSimpArgs false
set_option maxHeartbeats 4000000
set_option maxRecDepth 100000
namespace Go.Proofs.YtbjabpodkaokjaaGreatDoor
open Go.RowKit Go.Shelf
attribute [local go_sem] Oper.semAt_some
theorem iterS_stops (n:Nat) (hn:2≤n) (q:Nat) (s:W4) (hs:s.ok) (w0:World) (hT:TabZ w0)
  (hq:w0.heap[q]?=some (.cells #[.int .u64 (s.x0:Int),.int .u64 (s.x1:Int),.int .u64 (s.x2:Int),.int .u64 (s.x3:Int)] 150)) :
  SeqStopsK Fence.wide n Tryz.prog 200 #[.pointer (some ⟨q,0,none⟩)] (fun x:{x:Nat // x∈s.all}=>#[Value.int .u8 (x.val:Int)]) (Kz q) (fun xs=>xs.map Subtype.val=s.all) (fun pre=>pre.map Subtype.val <+: s.all) s.all.length w0:=fun l J Jx W hW hJ hJx hY h0=>
 iterS_in n hn l q s hs J Jx W hJ hJx hY (hT.keep (hW.block 1 hT.lt)) ((hW.block q (Array.getElem?_eq_some_iff.1 hq).1).trans hq) h0
theorem kz_b {q:Nat}{w:World} (hq:q<w.heap.size) (h1:1<w.heap.size) (W:World) (l:Nat) (o o':Obj) (hl:w.heap.size≤l) (h2:W.heap[l]?=some o) (h3:o.isCells=false) (h4:o.isWalk=false):Kz q W (W.putObj l o'):=by
 have hb:Below w.heap.size W (W.putObj l o'):=belowK_b (Nat.le_refl _) W l o o' hl h2 h3 h4
 exact⟨hb.size,hb.block 1 h1,hb.block q hq⟩
theorem ownFrom_exc {β:Type}{S:Nat→Prop}{w0:World}{B:Nat} (hB:w0.heap.size≤B):OwnFrom B (fun(_:β) W=>Exc S w0 W):=fun s W W' row hs hg hr=>
 ⟨hg.os.trans hs.os,hg.tape.trans hs.tape,hg.output.trans hs.output,Nat.le_trans hs.size hg.size,fun b hb hS=>(hg.block b (Nat.lt_of_lt_of_le hb hs.size) (fun e=>by have:=(hr b e.symm).1;omega)).trans (hs.block b hb hS)⟩
theorem fsAt_own {te:TypeId}{W W':World}{base:Nat}{v:Value}{fs:List W4}{row:Option Nat} (h:FsAt te W base v fs) (hg:W.grownBy W' row) (hr:∀ r,row=some r→∃ o:Obj,W.heap[r]?=some o∧o.isCells=false):FsAt te W' base v fs:=by
 refine h.blk (fun b hb=>hg.block b (h.lt hb).2 (fun e=>?_))
 obtain⟨o,h1,h2⟩:=hr b e.symm
 rcases h.2 with⟨rfl,_⟩|⟨g,cap,cur,rfl,_,h3,_⟩
 ·simp[Value.ownBlock] at hb
 ·simp[Value.ownBlock] at hb
  subst hb
  rw[h3] at h1;simp at h1;subst h1;cases h2
theorem follow_in (w:World) (sb base:Nat) (v:Value) (fs:List W4) (ls fr:W4) (hT:TabZ w) (c1:w.cell? ⟨sb,1,none⟩=some v) (h:FsAt 150 w base v fs) (hb1:1<base) (hsb:sb<base) (hl:ls.ok) (hf:fr.ok) (hok:∀ x∈fs,x.ok) (hr:∀ i∈ls.all,i<fs.length) :
  CallsIn Fence.wide 8 Tryz.prog 197 #[.pointer (some ⟨sb,0,none⟩),ls.v,fr.v] w fun e w'=>e=.returned (.tuple #[])∧FsAt 150 w' base v (foM fs ls fr)∧Exc (fun b=>v.ownBlock=some b) w w':=by
 have HH:Hid (FsAt 150 w base v fs):=h
 have HT:Hid (TabZ w):=hT
 have HC:Hid (w.cell? ⟨sb,1,none⟩=some v):=c1
 clear h hT c1
 refine callsIn_of_wp_marks Tryz.func197 rfl trivial ?_ rfl
 simp only[Tryz.ntmps197,List.size_toArray,List.length_cons,List.length_nil,Nat.reduceAdd,Nat.reduceSub,Array.replicate_succ,Array.replicate_zero,List.push_toArray,List.append_toArray,List.nil_append,List.cons_append]
 simp only[W4.v]
 gi_wp2_with (refine⟨trivial,?_⟩;gi_at_call 184;refine(all_in _ ls _).mono ?_;rintro e w' ⟨rfl,hw'⟩;subst hw')
 obtain⟨w0,hw0⟩:∃ w0,w0=(((w.alloc (.cells #[.pointer (some ⟨sb,0,none⟩)] 233)).alloc (.cells #[.int .u64 (ls.x0:Int),.int .u64 (ls.x1:Int),.int .u64 (ls.x2:Int),.int .u64 (ls.x3:Int)] 150)).alloc (.cells #[.int .u64 (fr.x0:Int),.int .u64 (fr.x1:Int),.int .u64 (fr.x2:Int),.int .u64 (fr.x3:Int)] 150)).alloc (.cells #[.int .u64 (ls.x0:Int),.int .u64 (ls.x1:Int),.int .u64 (ls.x2:Int),.int .u64 (ls.x3:Int)] 150):=⟨_,rfl⟩
 have hB0:Below w.heap.size w w0:=by rw[hw0];exact((((Below.refl _ w).alloc (Nat.le_refl _) _).alloc (by simp) _).alloc (by simp;omega) _).alloc (by simp;omega) _
 have hz0:w0.heap.size=w.heap.size+4:=by rw[hw0];simp
 have j0:w0.heap[w.heap.size]?=some (.cells #[.pointer (some ⟨sb,0,none⟩)] 233):=by rw[hw0,Below.heap_alloc _ _ _ (by simp;omega)];exact al0 w _ _ _
 have j2:w0.heap[w.heap.size+2]?=some (.cells #[.int .u64 (fr.x0:Int),.int .u64 (fr.x1:Int),.int .u64 (fr.x2:Int),.int .u64 (fr.x3:Int)] 150):=by rw[hw0,Below.heap_alloc _ _ _ (by simp)];exact al2 w _ _ _
 have j3:w0.heap[w.heap.size+3]?=some (.cells #[.int .u64 (ls.x0:Int),.int .u64 (ls.x1:Int),.int .u64 (ls.x2:Int),.int .u64 (ls.x3:Int)] 150):=by
  rw[hw0]
  have:=heap_alloc_new (((w.alloc (.cells #[.pointer (some ⟨sb,0,none⟩)] 233)).alloc (.cells #[.int .u64 (ls.x0:Int),.int .u64 (ls.x1:Int),.int .u64 (ls.x2:Int),.int .u64 (ls.x3:Int)] 150)).alloc (.cells #[.int .u64 (fr.x0:Int),.int .u64 (fr.x1:Int),.int .u64 (fr.x2:Int),.int .u64 (fr.x3:Int)] 150)) (.cells #[.int .u64 (ls.x0:Int),.int .u64 (ls.x1:Int),.int .u64 (ls.x2:Int),.int .u64 (ls.x3:Int)] 150)
  simpa using this
 rw[←hw0]
 have hvl:∀ b,v.ownBlock=some b→base≤b∧b<w.heap.size:=fun b hb=>HH.out.lt hb
 have hF0:FsAt 150 w0 base v fs:=HH.out.blk (fun b hb=>hB0.block b (hvl b hb).2)
 have hsbl:sb<w.heap.size:=cell_lt HC.out
 have h1l:=HT.out.lt
 have hC0:w0.cell? ⟨sb,1,none⟩=some v:=cell_below hB0 HC.out
 have HB0:Hid (Below w.heap.size w w0):=hB0
 clear hw0
 refine wpIn_rangeFunc_ownF (α:={x:Nat // x∈ls.all}) rfl (by omega) (gf:=200) (lb:=#[.pointer (some ⟨w.heap.size+3,0,none⟩)]) rfl trivial (enters_of Tryz.func200 (by kernel_rfl) rfl)
  (iterS_stops (8-1) (by omega) (w.heap.size+3) ls hl w0 (HT.out.keep (hB0.block 1 h1l)) j3) (fun h k=>h.trans k) (kz_b (by omega) (by omega)) (Below.refl _ _) (fun _=>rfl)
  (fun pre W=>FsAt 150 W base v (foL fs (pre.map Subtype.val) fr)∧Exc (fun b=>v.ownBlock=some b) w0 W)
  (fun _ _ _=>False)
  (OwnFrom.and (fun s A B row hs hg hr=>fsAt_own hs hg (fun r e=>(hr r e).2)) (ownFrom_exc (Nat.le_refl _)))
  (fun _ _ _ _ _ hs _ _=>hs)
  ⟨hF0,Exc.refl _ _⟩
  (fun x=>{tmps:=#[.pointer (some ⟨sb,0,none⟩),seV ls.x0 ls.x1 ls.x2 ls.x3,seV fr.x0 fr.x1 fr.x2 fr.x3,.pointer (some ⟨w.heap.size,0,none⟩),.pointer (some ⟨w.heap.size+1,0,none⟩),.pointer (some ⟨w.heap.size+1+1,0,none⟩),.int .u8 (x.val:Int),.agg #[.int .u64 (ls.x0:Int),.int .u64 (ls.x1:Int),.int .u64 (ls.x2:Int),.int .u64 (ls.x3:Int)],.func (.func 200) #[] #[.pointer (some ⟨w.heap.size+1+1+1,0,none⟩)],.int .u8 (x.val:Int),undef,undef,undef,undef,undef,undef,undef,undef],defers:=[]}) ?assign ?body ?done ?stop
 case assign=>
  intro l x W K hK
  gi_wp2
  exact hK
 case body=>
  rintro l pre x W ⟨hFs,hE⟩ _
  have hlen:x.val<(foL fs (pre.map Subtype.val) fr).length:=by rw[foL_len];exact hr _ x.2
  obtain⟨g,cap,rfl,hgb,hat⟩:=hFs.at hlen
  have hL:=foL_len fs (pre.map Subtype.val) fr
  obtain⟨k,hk⟩:=x
  simp only at hlen hat ⊢
  obtain⟨F,hFe⟩:∃ F,F=foL fs (pre.map Subtype.val) fr:=⟨_,rfl⟩
  rw[←hFe] at hlen
  have hat':W4At W g (k*4) F[k]:=by simpa [hFe] using hat
  have hFk:F[k].ok:=by
   have:=foL_ok (pre.map Subtype.val) hok hf
   rw[←hFe] at this
   exact this _ (List.getElem_mem _)
  have hcall:=addAllS_any W.drew g (k*4) F[k] fr hFk hf ⟨hat'.c0,hat'.c1,hat'.c2,hat'.c3,hat'.fz⟩
  have HFE:Hid (F=foL fs (pre.map Subtype.val) fr):=hFe
  have HAT:Hid (W4At W g (k*4) F[k]):=hat'
  have HFS:Hid (FsAt 150 W base (.slice (some ⟨g,0,none⟩) F.length cap) F):=by rw[hFe];exact hFs
  have d0:W.cell? ⟨w.heap.size,0,none⟩=some (.pointer (some ⟨sb,0,none⟩)):=by
   have:=hE.block w.heap.size (by omega) (fun e=>by have:=(hvl _ e).2;omega)
   simp[World.cell?,this,j0]
  have d1:W.cell? ⟨sb,1,none⟩=some (.slice (some ⟨g,0,none⟩) F.length cap):=by
   have:=hE.block sb (by omega) (fun e=>by have:=(hvl _ e).1;omega)
   rw[hFe,←hC0];simp[World.cell?,this]
  have e2:=hE.block (w.heap.size+2) (by omega) (fun e=>by have:=(hvl _ e).2;omega)
  have f0:W.cell? ⟨w.heap.size+1+1,0,none⟩=some (.int .u64 (fr.x0:Int)):=by simp[World.cell?,e2,j2]
  have f1:W.cell? ⟨w.heap.size+1+1,1,none⟩=some (.int .u64 (fr.x1:Int)):=by simp[World.cell?,e2,j2]
  have f2:W.cell? ⟨w.heap.size+1+1,2,none⟩=some (.int .u64 (fr.x2:Int)):=by simp[World.cell?,e2,j2]
  have f3:W.cell? ⟨w.heap.size+1+1,3,none⟩=some (.int .u64 (fr.x3:Int)):=by simp[World.cell?,e2,j2]
  have hkI:(k:Int)<F.length:=by omega
  have hmix:Tryz.prog.follows .mixedOrders=true:=by kernel_rfl
  have hvg:=(hvl g rfl)
  have HFIN:Hid (∀ w2,W4At w2 g (k*4) (F[k].or fr)→Fo g (k*4) W.drew w2→KeepsOthers W w2∧Kz (w.heap.size+3) W w2∧FsAt 150 w2 base (.slice (some ⟨g,0,none⟩) (foL fs (pre.map Subtype.val) fr).length cap) (foL fs ((pre++[(⟨k,hk⟩:{x:Nat // x∈ls.all})]).map Subtype.val) fr)∧Exc (fun b=>(Value.slice (some ⟨g,0,none⟩) (foL fs (pre.map Subtype.val) fr).length cap).ownBlock=some b) w0 w2):=fun w2 hx2 hf2=>by
   have hf2':Fo g (k*4) W w2:=⟨⟨hf2.four.os,hf2.four.tape,hf2.four.output,hf2.four.size,hf2.four.block,hf2.four.cell⟩,hf2.shp⟩
   have hsz:=hE.size
   refine⟨hf2'.others HAT.out.c0,⟨hf2'.four.size,hf2'.four.block 1 (by omega) (by omega),hf2'.four.block _ (by omega) (by omega)⟩,?_,?_⟩
   ·have:=HFS.out.mod hlen hf2' hx2
    rw[List.map_append,List.map_cons,List.map_nil,foL_snoc,←HFE.out,modify_set _ _ hlen]
    exact this
   ·refine hE.trans (hf2'.exc.mono (fun b _ hb=>?_))
    subst hb;rfl
  clear hat hFe hat' hFs hL
  gi_wp2
  gi_region_with_o (refine⟨trivial,?_⟩;gi_at_call 125;refine(CallsIn.inRound l (callsIn_wide.2 hcall)).mono ?_;rintro e w2 ⟨rfl,hx2,hf2⟩)
  all_goals exact HFIN.out _ hx2 hf2
 case done=>
  rintro D ys W hD hys ⟨hFs,hE⟩ hK
  gi_wp2
  refine⟨by simp,.inl ⟨_,_,rfl,run_takeDeferred hK,?_⟩⟩
  have hbD:Below w0.heap.size W (W.putObj D (.deferred none)):=belowK_b (w:=w0) (Nat.le_refl _) W D _ _ hD hK rfl rfl
  have hbS:=hbD.size
  refine⟨_,results_none rfl _ _ _,rfl,?_,?_⟩
  ·have:foM fs ls fr=foL fs (ys.map Subtype.val) fr:=by rw[hys];rfl
   rw[this]
   exact hFs.blk (fun b hb=>hbD.block b (by have:=(hvl b hb).2;omega))
  ·have h1:Exc (fun b=>v.ownBlock=some b) w w0:=Exc.of_below _ HB0.out
   refine⟨hE.os.trans h1.os,hE.tape.trans h1.tape,hE.output.trans h1.output,Nat.le_trans h1.size (Nat.le_trans hE.size hbS),fun b hb hS=>?_⟩
   rw[hbD.block b (by omega)]
   exact(hE.block b (by omega) hS).trans (h1.block b hb hS)
 case stop=>
  rintro D c pre W _ _ h _
  exact h.elim
theorem follow_any (w:World) (sb base:Nat) (v:Value) (fs:List W4) (ls fr:W4) (hT:TabZ w) (c1:w.cell? ⟨sb,1,none⟩=some v) (h:FsAt 150 w base v fs) (hb1:1<base) (hsb:sb<base) (hl:ls.ok) (hf:fr.ok) (hok:∀ x∈fs,x.ok) (hr:∀ i∈ls.all,i<fs.length) :
  Calls Tryz.prog 197 #[.pointer (some ⟨sb,0,none⟩),ls.v,fr.v] w fun e w'=>e=.returned (.tuple #[])∧FsAt 150 w' base v (foM fs ls fr)∧Exc (fun b=>v.ownBlock=some b) w w':=callsIn_wide.1 (follow_in w sb base v fs ls fr hT c1 h hb1 hsb hl hf hok hr)
open Go.RowKit
abbrev pcC (p:Pc):Array Value:=#[.int .u64 (p.first.x0:Int),.int .u64 (p.first.x1:Int),.int .u64 (p.first.x2:Int),.int .u64 (p.first.x3:Int),.int .u64 (p.last.x0:Int),.int .u64 (p.last.x1:Int),.int .u64 (p.last.x2:Int),.int .u64 (p.last.x3:Int),.bool p.empty]
abbrev zC:Array Value:=#[.int .u64 0,.int .u64 0,.int .u64 0,.int .u64 0,.int .u64 0,.int .u64 0,.int .u64 0,.int .u64 0,.bool false]
abbrev pcV (p:Pc):Value:=.agg (pcC p)
theorem maybe_any (w:World) (p:Pc) :
  Calls Tryz.prog 210 #[pcV p] w fun e w'=>e=.returned (pcV p.may)∧Below w.heap.size w w':=by
 go_enter Tryz.func210,Tryz.ntmps210
 go_wp2
 refine bodyPost_ret (v:=pcV p.may) (by simp[results,Tryz.results210,go_sem,Pc.may]) rfl ⟨rfl,((Below.refl _ _).alloc (Nat.le_refl _) _).alloc (by simp) _⟩
def BsAt (w:World) (base:Nat) (v:Value) (bs:List (Nat→Bool)):Prop:=∃ ws:List W4,FsAt 226 w base v ws∧ws.length=bs.length∧∀ i (h:i<ws.length) (h2:i<bs.length),Sx.Wd ws[i].x0 ws[i].x1 ws[i].x2 ws[i].x3 bs[i]
theorem BsAt.blk {w w':World}{base:Nat}{v:Value}{bs:List (Nat→Bool)} (h:BsAt w base v bs) (hb:∀ b,v.ownBlock=some b→w'.heap[b]?=w.heap[b]?):BsAt w' base v bs:=by
 obtain⟨ws,h1,h2⟩:=h
 exact⟨ws,h1.blk hb,h2⟩
structure ExAt (w:World) (sb:Nat) (vb vf:Value) (e:Ex):Prop where
 c0:w.cell? ⟨sb,0,none⟩=some vb
 c1:w.cell? ⟨sb,1,none⟩=some vf
 fz:∀ o,w.frozen? ⟨sb,o,none⟩=false
 bs:BsAt w (sb+1) vb e.bs
 fs:FsAt 150 w (sb+1) vf e.fs
def EFoot (sb:Nat) (vb vf:Value) (b:Nat):Prop:=b=sb∨vb.ownBlock=some b∨vf.ownBlock=some b
theorem ExAt.lt {w:World}{sb:Nat}{vb vf:Value}{e:Ex} (h:ExAt w sb vb vf e) {b:Nat} (hb:EFoot sb vb vf b):sb≤b∧b<w.heap.size:=by
 rcases hb with rfl|hb|hb
 ·exact⟨Nat.le_refl _,cell_lt h.c0⟩
 ·obtain⟨ws,h1,_⟩:=h.bs
  have:=h1.lt hb
  omega
 ·have:=h.fs.lt hb
  omega
theorem ExAt.keep {w w':World}{sb:Nat}{vb vf:Value}{e:Ex} (h:ExAt w sb vb vf e) (k:∀ b,EFoot sb vb vf b→w'.heap[b]?=w.heap[b]?):ExAt w' sb vb vf e:=by
 have hp:=k sb (.inl rfl)
 refine⟨?_,?_,fun o=>?_,h.bs.blk (fun b hb=>k b (.inr (.inl hb))),h.fs.blk (fun b hb=>k b (.inr (.inr hb)))⟩
 ·rw[←h.c0];simp[World.cell?,hp]
 ·rw[←h.c1];simp[World.cell?,hp]
 ·rw[←h.fz o];simp[World.frozen?,hp]
theorem ExAt.below {w w':World}{sb:Nat}{vb vf:Value}{e:Ex} (h:ExAt w sb vb vf e) (k:Below w.heap.size w w'):ExAt w' sb vb vf e:=h.keep (fun b hb=>k.block b (h.lt hb).2)
theorem ExAt.ne {w:World}{sb:Nat}{vb vf:Value}{e:Ex} (h:ExAt w sb vb vf e) {b:Nat} (hb:vb.ownBlock=some b):vf.ownBlock≠some b:=by
 intro hf
 obtain⟨ws,h1,_⟩:=h.bs
 rcases h1.2 with⟨rfl,_⟩|⟨g,cap,cur,rfl,_,h2,_⟩
 ·simp[Value.ownBlock] at hb
 ·rcases h.fs.2 with⟨rfl,_⟩|⟨g',cap',cur',rfl,_,h3,_⟩
  ·simp[Value.ownBlock] at hf
  ·simp[Value.ownBlock] at hb hf
   subst hb;subst hf
   rw[h2] at h3
   simp at h3
structure Grw (sb:Nat) (w:World) (vb vf:Value) (w':World) (vb' vf':Value):Prop where
 exc:Exc (EFoot sb vb vf) w w'
 new:∀ b,EFoot sb vb' vf' b→EFoot sb vb vf b∨w.heap.size≤b
 cl:sb<w.heap.size→∀ o,2≤o→w'.cell? ⟨sb,o,none⟩=w.cell? ⟨sb,o,none⟩
theorem Grw.refl (sb:Nat) (w:World) (vb vf:Value):Grw sb w vb vf w vb vf:=⟨Exc.refl _ _,fun b hb=>.inl hb,fun _ _ _=>rfl⟩
theorem cell_same {w w':World}{b:Nat} (h:w'.heap[b]?=w.heap[b]?) (o:Nat):w'.cell? ⟨b,o,none⟩=w.cell? ⟨b,o,none⟩:=by simp[World.cell?,h]
theorem Grw.trans {sb:Nat}{w w1 w2:World}{vb vf vb1 vf1 vb2 vf2:Value} (h:Grw sb w vb vf w1 vb1 vf1) (g:Grw sb w1 vb1 vf1 w2 vb2 vf2):Grw sb w vb vf w2 vb2 vf2:=by
 have hs:=h.exc.size
 refine⟨⟨g.exc.os.trans h.exc.os,g.exc.tape.trans h.exc.tape,g.exc.output.trans h.exc.output,Nat.le_trans hs g.exc.size,fun b hb hS=>?_⟩,fun b hb=>?_,fun hb o ho=>(g.cl (by omega) o ho).trans (h.cl hb o ho)⟩
 ·refine(g.exc.block b (by omega) (fun hf=>?_)).trans (h.exc.block b hb hS)
  rcases h.new b hf with q|q
  ·exact hS q
  ·omega
 ·rcases g.new b hb with q|q
  ·exact h.new b q
  ·exact .inr (by omega)
theorem Grw.below {sb:Nat}{w w1 w2:World}{vb vf vb1 vf1:Value} (h:Grw sb w vb vf w1 vb1 vf1) (g:Below w1.heap.size w1 w2):Grw sb w vb vf w2 vb1 vf1:=
 h.trans ⟨Exc.of_below _ g,fun b hb=>.inl hb,fun hb o _=>cell_same (g.block sb hb) o⟩
theorem Grw.of_below {sb:Nat}{w w1:World}{vb vf:Value} (g:Below w.heap.size w w1):Grw sb w vb vf w1 vb vf:=⟨Exc.of_below _ g,fun b hb=>.inl hb,fun hb o _=>cell_same (g.block sb hb) o⟩
theorem Grw.same {sb:Nat}{w w1:World}{vb vf vb1 vf1:Value} (h:Grw sb w vb vf w1 vb1 vf1) {b:Nat} (hb:b<w.heap.size) (hn:¬ EFoot sb vb vf b):w1.heap[b]?=w.heap[b]?:=h.exc.block b hb hn
theorem ExAt.join {w w':World}{sb:Nat}{vb vf:Value}{e:Ex}{a b:Pc} (h:ExAt w sb vb vf e) (hf:FsAt 150 w' (sb+1) vf (foM e.fs a.last b.first)) (hx:Exc (fun b=>vf.ownBlock=some b) w w'):ExAt w' sb vb vf (e.join a b)∧Grw sb w vb vf w' vb vf:=by
 have hp:w'.heap[sb]?=w.heap[sb]?:=hx.block sb (cell_lt h.c0) (fun q=>by have:=(h.fs.lt q).1;omega)
 refine⟨⟨?_,?_,fun o=>?_,h.bs.blk (fun b hb=>hx.block b (h.lt (.inr (.inl hb))).2 (h.ne hb)),hf⟩,⟨hx.mono (fun b _ hb=>.inr (.inr hb)),fun b hb=>.inl hb,fun _ o _=>cell_same hp o⟩⟩
 ·rw[←h.c0];simp[World.cell?,hp]
 ·rw[←h.c1];simp[World.cell?,hp]
 ·rw[←h.fz o];simp[World.frozen?,hp]
theorem followE_any (w:World) (sb:Nat) (vb vf:Value) (e:Ex) (a b:Pc) (n:Nat) (hT:TabZ w) (h1:1<sb) (h:ExAt w sb vb vf e) (hn:n≤64) (he:ExOk n e) (ha:Pcs n a) (hb:Pcs n b) :
  Calls Tryz.prog 197 #[.pointer (some ⟨sb,0,none⟩),a.last.v,b.first.v] w fun r w'=>r=.returned (.tuple #[])∧ExAt w' sb vb vf (e.join a b)∧Grw sb w vb vf w' vb vf:=by
 refine(follow_any w sb (sb+1) vf e.fs a.last b.first hT h.c1 h.fs (by omega) (by omega) (ha.l.ok hn) (hb.f.ok hn) (fun x hx=>(he.s x hx).ok hn) (fun i hi=>by have:=ha.l.lt hn i hi;rw[he.f];exact this)).mono ?_
 rintro r w' ⟨rfl,hf,hx⟩
 exact⟨rfl,h.join hf hx⟩
theorem box9 {w:World}{q:Nat}{p:Pc}{T:TypeId}{fr:Nat×Nat} (h:w.heap[q]?=some (.cells (pcC p) T fr)) :
  w.cell? ⟨q,0,none⟩=some (.int .u64 (p.first.x0:Int))∧w.cell? ⟨q,1,none⟩=some (.int .u64 (p.first.x1:Int))∧w.cell? ⟨q,2,none⟩=some (.int .u64 (p.first.x2:Int))∧w.cell? ⟨q,3,none⟩=some (.int .u64 (p.first.x3:Int)) ∧
  w.cell? ⟨q,4,none⟩=some (.int .u64 (p.last.x0:Int))∧w.cell? ⟨q,5,none⟩=some (.int .u64 (p.last.x1:Int))∧w.cell? ⟨q,6,none⟩=some (.int .u64 (p.last.x2:Int))∧w.cell? ⟨q,7,none⟩=some (.int .u64 (p.last.x3:Int))∧w.cell? ⟨q,8,none⟩=some (.bool p.empty):=by
 simp[World.cell?,h]
theorem box9z {w:World}{q:Nat}{T:TypeId}{fr:Nat×Nat} (h:w.heap[q]?=some (.cells zC T fr)) :
  w.cell? ⟨q,0,none⟩=some (.int .u64 0)∧w.cell? ⟨q,1,none⟩=some (.int .u64 0)∧w.cell? ⟨q,2,none⟩=some (.int .u64 0)∧w.cell? ⟨q,3,none⟩=some (.int .u64 0) ∧
  w.cell? ⟨q,4,none⟩=some (.int .u64 0)∧w.cell? ⟨q,5,none⟩=some (.int .u64 0)∧w.cell? ⟨q,6,none⟩=some (.int .u64 0)∧w.cell? ⟨q,7,none⟩=some (.int .u64 0)∧w.cell? ⟨q,8,none⟩=some (.bool false):=by
 simp[World.cell?,h]
abbrev S9 (w:World) (q:Nat) (p:Pc):World:=
 ((((((((w.setCell ⟨q,0,none⟩ (.int .u64 (p.first.x0:Int))).setCell ⟨q,1,none⟩ (.int .u64 (p.first.x1:Int))).setCell ⟨q,2,none⟩ (.int .u64 (p.first.x2:Int))).setCell ⟨q,3,none⟩ (.int .u64 (p.first.x3:Int))).setCell ⟨q,4,none⟩ (.int .u64 (p.last.x0:Int))).setCell ⟨q,5,none⟩ (.int .u64 (p.last.x1:Int))).setCell ⟨q,6,none⟩ (.int .u64 (p.last.x2:Int))).setCell ⟨q,7,none⟩ (.int .u64 (p.last.x3:Int))).setCell ⟨q,8,none⟩ (.bool p.empty)
theorem S9_blk (w:World) (q:Nat) (p:Pc) {k:Nat} (h:k≠q):(S9 w q p).heap[k]?=w.heap[k]?:=by
 rw[set_blk _ _ _ _ h,set_blk _ _ _ _ h,set_blk _ _ _ _ h,set_blk _ _ _ _ h,set_blk _ _ _ _ h,set_blk _ _ _ _ h,set_blk _ _ _ _ h,set_blk _ _ _ _ h,set_blk _ _ _ _ h]
theorem set_own {w:World}{q o:Nat}{v:Value}{cs:Array Value}{T:TypeId}{fr:Nat×Nat} (h:w.heap[q]?=some (.cells cs T fr)):(w.setCell ⟨q,o,none⟩ v).heap[q]?=some (.cells (cs.setIfInBounds o v) T fr):=by
 simp[World.setCell,Array.getElem?_modify,h]
theorem S9_own {w:World}{q:Nat} (p:Pc) {a0 a1 a2 a3 a4 a5 a6 a7 a8:Value}{T:TypeId}{fr:Nat×Nat} (h:w.heap[q]?=some (.cells #[a0,a1,a2,a3,a4,a5,a6,a7,a8] T fr)):(S9 w q p).heap[q]?=some (.cells (pcC p) T fr):=by
 rw[set_own (set_own (set_own (set_own (set_own (set_own (set_own (set_own (set_own h))))))))]
 simp
theorem set_env (w:World) (a:Addr) (v:Value):(w.setCell a v).os=w.os∧(w.setCell a v).tape=w.tape∧(w.setCell a v).output=w.output:=⟨rfl,rfl,rfl⟩
theorem S9_env (w:World) (q:Nat) (p:Pc):(S9 w q p).os=w.os∧(S9 w q p).tape=w.tape∧(S9 w q p).output=w.output:=by
 unfold S9
 simp only[set_env,and_self]
theorem S9_size (w:World) (q:Nat) (p:Pc):(S9 w q p).heap.size=w.heap.size:=by simp[World.setCell]
theorem S9_below (w:World) (q:Nat) (p:Pc) {B:Nat} (h:B≤q):Below B w (S9 w q p):=⟨(S9_env w q p).1,(S9_env w q p).2.1,(S9_env w q p).2.2,by rw[S9_size];exact Nat.le_refl _,fun b hb=>S9_blk w q p (by omega)⟩
theorem Grw.put {sb:Nat}{w w1:World}{vb vf vb1 vf1:Value} (h:Grw sb w vb vf w1 vb1 vf1) {q:Nat} (hq:w.heap.size≤q) (p:Pc):Grw sb w vb vf (S9 w1 q p) vb1 vf1:=by
 have hb:=S9_below w1 q p hq
 refine⟨⟨hb.os.trans h.exc.os,hb.tape.trans h.exc.tape,hb.output.trans h.exc.output,Nat.le_trans h.exc.size hb.size,fun b hb' hS=>(hb.block b hb').trans (h.exc.block b hb' hS)⟩,h.new,fun hsb o ho=>(cell_same (hb.block sb hsb) o).trans (h.cl hsb o ho)⟩
theorem ExAt.put {w:World}{sb:Nat}{vb vf:Value}{e:Ex} (h:ExAt w sb vb vf e) {q:Nat} (hq:¬ EFoot sb vb vf q) (p:Pc):ExAt (S9 w q p) sb vb vf e:=h.keep (fun b hb=>S9_blk w q p (by rintro rfl;exact hq hb))
theorem again_any (w:World) (sb:Nat) (vb vf:Value) (e:Ex) (p:Pc) (n:Nat) (hT:TabZ w) (h1:1<sb) (h:ExAt w sb vb vf e) (hn:n≤64) (he:ExOk n e) (hp:Pcs n p) :
  Calls Tryz.prog 211 #[.pointer (some ⟨sb,0,none⟩),pcV p] w fun r w'=>r=.returned (pcV p)∧ExAt w' sb vb vf (e.join p p)∧Grw sb w vb vf w' vb vf:=by
 obtain⟨w1,hw1⟩:∃ w1,w1=(w.alloc (.cells (pcC p) 152)).alloc (.cells zC 152):=⟨_,rfl⟩
 have hb1:Below w.heap.size w w1:=by rw[hw1];exact((Below.refl _ _).alloc (Nat.le_refl _) _).alloc (by simp) _
 have hz1:w1.heap.size=w.heap.size+2:=by rw[hw1];simp
 have k0:w1.heap[w.heap.size]?=some (.cells (pcC p) 152):=by rw[hw1,Below.heap_alloc _ _ _ (by simp)];exact heap_alloc_new w _
 have k1:w1.heap[w.heap.size+1]?=some (.cells zC 152):=by
  rw[hw1]
  have:=heap_alloc_new (w.alloc (.cells (pcC p) 152)) (.cells zC 152)
  simpa using this
 have hfo:=followE_any w1 sb vb vf e p p n (hT.keep (hb1.block 1 hT.lt)) h1 (h.below hb1) hn he hp hp
 simp only[W4.v] at hfo
 have HW:Hid (w1=(w.alloc (.cells (pcC p) 152)).alloc (.cells zC 152)):=hw1
 have HLT:Hid (∀ b,EFoot sb vb vf b→b<w.heap.size):=fun b hb=>(h.lt hb).2
 have HB1:Hid (Below w.heap.size w w1):=hb1
 clear hw1 h hT hb1
 go_enter Tryz.func211,Tryz.ntmps211
 go_wp2_with (go_at_call 197;rw[←HW.out];refine hfo.mono ?_;rintro r w2 ⟨rfl,hx,hg⟩;have HX:Hid (ExAt w2 sb vb vf (e.join p p)):=hx;have HG:Hid (Grw sb w vb vf w2 vb vf):=((Grw.of_below HB1.out).trans hg);have HK:Hid (w2.heap[w.heap.size+1]?=some (.cells zC 152)):=(hg.same (by omega) (fun q=>by have:=HLT.out _ q;omega)).trans k1;obtain⟨y0,y1,y2,y3,y4,y5,y6,y7,y8⟩:=box9 ((hg.same (b:=w.heap.size) (by omega) (fun q=>by have:=HLT.out _ q;omega)).trans k0);obtain⟨z0,z1,z2,z3,z4,z5,z6,z7,z8⟩:=box9z HK.out;have zf:∀ o,w2.frozen? ⟨w.heap.size+1,o,none⟩=false:=(fun o=>by simp[World.frozen?,HK.out]);clear hx hg)
 refine bodyPost_ret (v:=pcV p) (by simp[results,Tryz.results211,go_sem,z0,z1,z2,z3,z4,z5,z6,z7,z8]) rfl ⟨rfl,?_,?_⟩
 ·exact ExAt.put HX.out (q:=w.heap.size+1) (fun q=>by have:=HLT.out _ q;omega) p
 ·exact Grw.put HG.out (by omega) p
theorem pcs_ok {n:Nat}{p:Pc} (h:Pcs n p) (hn:n≤64):p.first.ok∧p.last.ok:=⟨h.f.ok hn,h.l.ok hn⟩
theorem at_first {w:World}{q:Nat}{p:Pc}{T:TypeId} (h:w.heap[q]?=some (.cells (pcC p) T)):W4At w q 0 p.first:=by
 obtain⟨y0,y1,y2,y3,y4,y5,y6,y7,y8⟩:=box9 h
 exact⟨y0,y1,y2,y3,fun o=>by simp[World.frozen?,h]⟩
theorem at_last {w:World}{q:Nat}{p:Pc}{T:TypeId} (h:w.heap[q]?=some (.cells (pcC p) T)):W4At w q 4 p.last:=by
 obtain⟨y0,y1,y2,y3,y4,y5,y6,y7,y8⟩:=box9 h
 exact⟨y4,y5,y6,y7,fun o=>by simp[World.frozen?,h]⟩
theorem nine_ext {cs ds:Array Value} (h1:cs.size=9) (h2:ds.size=9) (h:∀ i,i<9→cs[i]?=ds[i]?):cs=ds:=by
 apply Array.ext_getElem?
 intro i
 by_cases hi:i<9
 ·exact h i hi
 ·rw[Array.getElem?_eq_none (by omega),Array.getElem?_eq_none (by omega)]
theorem put_first {w w':World}{q:Nat}{p:Pc}{x:W4}{T:TypeId} (h:w.heap[q]?=some (.cells (pcC p) T)) (hx:W4At w' q 0 x) (hf:Fo q 0 w w'):w'.heap[q]?=some (.cells (pcC {p with first:=x}) T):=by
 obtain⟨cs',e1,e2⟩:=hf.shp _ _ _ h
 obtain⟨y0,y1,y2,y3,y4,y5,y6,y7,y8⟩:=box9 h
 rw[e1]
 have key:∀ i v,w'.cell? ⟨q,i,none⟩=some v→cs'[i]?=some v:=fun i v hv=>by simpa [World.cell?,e1] using hv
 have hc:cs'=pcC {p with first:=x}:=by
  refine nine_ext (by rw[e2];rfl) rfl (fun i hi=>?_)
  match i,hi with
  |0,_=>exact key 0 _ hx.c0
  |1,_=>exact key 1 _ hx.c1
  |2,_=>exact key 2 _ hx.c2
  |3,_=>exact key 3 _ hx.c3
  |4,_=>exact key 4 _ ((hf.four.cell 4 (by omega)).trans y4)
  |5,_=>exact key 5 _ ((hf.four.cell 5 (by omega)).trans y5)
  |6,_=>exact key 6 _ ((hf.four.cell 6 (by omega)).trans y6)
  |7,_=>exact key 7 _ ((hf.four.cell 7 (by omega)).trans y7)
  |8,_=>exact key 8 _ ((hf.four.cell 8 (by omega)).trans y8)
 rw[hc]
theorem put_last {w w':World}{q:Nat}{p:Pc}{x:W4}{T:TypeId} (h:w.heap[q]?=some (.cells (pcC p) T)) (hx:W4At w' q 4 x) (hf:Fo q 4 w w'):w'.heap[q]?=some (.cells (pcC {p with last:=x}) T):=by
 obtain⟨cs',e1,e2⟩:=hf.shp _ _ _ h
 obtain⟨y0,y1,y2,y3,y4,y5,y6,y7,y8⟩:=box9 h
 rw[e1]
 have key:∀ i v,w'.cell? ⟨q,i,none⟩=some v→cs'[i]?=some v:=fun i v hv=>by simpa [World.cell?,e1] using hv
 have hc:cs'=pcC {p with last:=x}:=by
  refine nine_ext (by rw[e2];rfl) rfl (fun i hi=>?_)
  match i,hi with
  |4,_=>exact key 4 _ hx.c0
  |5,_=>exact key 5 _ hx.c1
  |6,_=>exact key 6 _ hx.c2
  |7,_=>exact key 7 _ hx.c3
  |0,_=>exact key 0 _ ((hf.four.cell 0 (by omega)).trans y0)
  |1,_=>exact key 1 _ ((hf.four.cell 1 (by omega)).trans y1)
  |2,_=>exact key 2 _ ((hf.four.cell 2 (by omega)).trans y2)
  |3,_=>exact key 3 _ ((hf.four.cell 3 (by omega)).trans y3)
  |8,_=>exact key 8 _ ((hf.four.cell 8 (by omega)).trans y8)
 rw[hc]
theorem Fo.below {b off:Nat}{w w':World} (h:Fo b off w w') {B:Nat} (hB:B≤b) (hb:b<w.heap.size):Below B w w':=
 ⟨h.four.os,h.four.tape,h.four.output,h.four.size,fun k hk=>h.four.block k (by omega) (by omega)⟩
structure JB (W:World) (H:Nat) (a b:Pc):Prop where
 k0:W.heap[H]?=some (.cells (pcC a) 152)
 k1:W.heap[H+1]?=some (.cells (pcC b) 152)
 k2:W.heap[H+2]?=some (.cells zC 152)
theorem JB.keep {W W':World}{H:Nat}{a b:Pc} (h:JB W H a b) (k:∀ j,H≤j→j<H+3→W'.heap[j]?=W.heap[j]?):JB W' H a b:=
 ⟨(k _ (by omega) (by omega)).trans h.k0,(k _ (by omega) (by omega)).trans h.k1,(k _ (by omega) (by omega)).trans h.k2⟩
theorem JB.lt {W:World}{H:Nat}{a b:Pc} (h:JB W H a b):H+2<W.heap.size:=(Array.getElem?_eq_some_iff.1 h.k2).1
theorem JB.al {W:World}{H:Nat}{a b:Pc} (h:JB W H a b) (ob:Obj):JB (W.alloc ob) H a b:=h.keep (fun j h1 h2=>Below.heap_alloc _ _ _ (by have:=h.lt;omega))
theorem zcell {W:World}{H:Nat}{a b:Pc} (h:JB W H a b):(∀ o,W.frozen? ⟨H+2,o,none⟩=false):=fun o=>by simp[World.frozen?,h.k2]
structure JPre (w w1:World) (sb:Nat) (vb vf:Value) (e:Ex) (a b:Pc):Prop where
 ew:w1=((w.alloc (.cells (pcC a) 152)).alloc (.cells (pcC b) 152)).alloc (.cells zC 152)
 z:w1.heap.size=w.heap.size+3
 j:JB w1 w.heap.size a b
 lt:∀ b,EFoot sb vb vf b→b<w.heap.size
 bl:Below w.heap.size w w1
 fo:Calls Tryz.prog 197 #[.pointer (some ⟨sb,0,none⟩),seV a.last.x0 a.last.x1 a.last.x2 a.last.x3,seV b.first.x0 b.first.x1 b.first.x2 b.first.x3] w1 fun r w'=>r=.returned (.tuple #[])∧ExAt w' sb vb vf (e.join a b)∧Grw sb w1 vb vf w' vb vf
theorem jPre (w:World) (sb:Nat) (vb vf:Value) (e:Ex) (a b:Pc) (n:Nat) (hT:TabZ w) (h1:1<sb) (h:ExAt w sb vb vf e) (hn:n≤64) (he:ExOk n e) (ha:Pcs n a) (hb:Pcs n b):∃ w1,JPre w w1 sb vb vf e a b:=by
 obtain⟨w1,hw1⟩:∃ w1,w1=((w.alloc (.cells (pcC a) 152)).alloc (.cells (pcC b) 152)).alloc (.cells zC 152):=⟨_,rfl⟩
 have hb1:Below w.heap.size w w1:=by rw[hw1];exact(((Below.refl _ _).alloc (Nat.le_refl _) _).alloc (by simp) _).alloc (by simp;omega) _
 have hz1:w1.heap.size=w.heap.size+3:=by rw[hw1];simp
 have hj1:JB w1 w.heap.size a b:=by rw[hw1];exact⟨al0 w _ _ _,al1 w _ _ _,al2 w _ _ _⟩
 have hfo:=followE_any w1 sb vb vf e a b n (hT.keep (hb1.block 1 hT.lt)) h1 (h.below hb1) hn he ha hb
 simp only[W4.v] at hfo
 exact⟨w1,hw1,hz1,hj1,fun b hb=>(h.lt hb).2,hb1,hfo⟩
theorem join_ff (w:World) (sb:Nat) (vb vf:Value) (e:Ex) (af al bf bl:W4) (w1:World) (h:JPre w w1 sb vb vf e ⟨af,al,false⟩ ⟨bf,bl,false⟩) (hA:af.ok∧al.ok) (hB:bf.ok∧bl.ok) :
  Calls Tryz.prog 175 #[.pointer (some ⟨sb,0,none⟩),pcV ⟨af,al,false⟩,pcV ⟨bf,bl,false⟩] w fun r w'=>r=.returned (pcV ⟨af,bl,false⟩)∧ExAt w' sb vb vf (e.join ⟨af,al,false⟩ ⟨bf,bl,false⟩)∧Grw sb w vb vf w' vb vf:=by
 have HP:Hid (JPre w w1 sb vb vf e ⟨af,al,false⟩ ⟨bf,bl,false⟩):=h
 have hz1:=h.z
 have hfo:=h.fo
 clear h
 go_enter Tryz.func175,Tryz.ntmps175
 go_wp2_with (go_at_call 197;rw[←HP.out.ew];refine hfo.mono ?_;rintro r w2 ⟨rfl,hx,hg⟩;have HX:Hid (ExAt w2 sb vb vf (e.join ⟨af,al,false⟩ ⟨bf,bl,false⟩)):=hx;have HG:Hid (Grw sb w vb vf w2 vb vf):=((Grw.of_below HP.out.bl).trans hg);have HJ:Hid (JB w2 w.heap.size ⟨af,al,false⟩ ⟨bf,bl,false⟩):=HP.out.j.keep (fun j h1 h2=>hg.same (by omega) (fun q=>by have:=HP.out.lt _ q;omega));obtain⟨a0,a1,a2,a3,a4,a5,a6,a7,a8⟩:=box9 HJ.out.k0;obtain⟨b0,b1,b2,b3,b4,b5,b6,b7,b8⟩:=box9 HJ.out.k1;obtain⟨z0,z1,z2,z3,z4,z5,z6,z7,z8⟩:=box9z HJ.out.k2;have zf:=zcell HJ.out;have hlt:=HJ.out.lt;simp only at a8 b8;have JA:=HJ.out;have aa:=(fun ob=>box9 (JA.al ob).k0);have bb:=(fun ob=>box9 (JA.al ob).k1);have zz:=(fun ob=>box9z (JA.al ob).k2);have zg:=(fun ob=>zcell (JA.al ob));simp only at aa bb;clear JA;have HL2:Hid (w.heap.size+2<w2.heap.size):=hlt;clear hx hg)
 obtain⟨W,hW⟩:∃ W,W=S9 w2 (w.heap.size+1+1) ⟨af,bl,false⟩:=⟨_,rfl⟩
 have hW2:=hW
 simp only[S9] at hW2
 rw[←hW2]
 have hbw:Below w2.heap.size W (W.alloc (.cells (pcC ⟨af,bl,false⟩) 152)):=(Below.refl _ _).alloc (by rw[hW,S9_size];exact Nat.le_refl _) _
 have hq:(W.alloc (.cells (pcC ⟨af,bl,false⟩) 152)).heap[w.heap.size+1+1]?=some (.cells (pcC ⟨af,bl,false⟩) 152):=(hbw.block _ (by omega)).trans (by rw[hW];exact S9_own _ HJ.out.k2)
 obtain⟨q0,q1,q2,q3,q4,q5,q6,q7,q8⟩:=box9 hq
 refine bodyPost_ret (v:=pcV ⟨af,bl,false⟩) (by simp[results,Tryz.results175,go_sem,q0,q1,q2,q3,q4,q5,q6,q7,q8]) rfl ⟨rfl,?_,?_⟩
 ·have hz:W.heap.size=w2.heap.size:=by rw[hW,S9_size]
  refine ExAt.below ?_ (by rw[hz];exact hbw)
  rw[hW]
  exact ExAt.put HX.out (fun q=>by have:=HP.out.lt _ q;omega) ⟨af,bl,false⟩
 ·have hz:W.heap.size=w2.heap.size:=by rw[hW,S9_size]
  refine Grw.below ?_ (by rw[hz];exact hbw)
  rw[hW]
  exact Grw.put HG.out (by omega) ⟨af,bl,false⟩
theorem join_tf (w:World) (sb:Nat) (vb vf:Value) (e:Ex) (af al bf bl:W4) (w1:World) (h:JPre w w1 sb vb vf e ⟨af,al,true⟩ ⟨bf,bl,false⟩) (hA:af.ok∧al.ok) (hB:bf.ok∧bl.ok) :
  Calls Tryz.prog 175 #[.pointer (some ⟨sb,0,none⟩),pcV ⟨af,al,true⟩,pcV ⟨bf,bl,false⟩] w fun r w'=>r=.returned (pcV ⟨af.or bf,bl,false⟩)∧ExAt w' sb vb vf (e.join ⟨af,al,true⟩ ⟨bf,bl,false⟩)∧Grw sb w vb vf w' vb vf:=by
 have HP:Hid (JPre w w1 sb vb vf e ⟨af,al,true⟩ ⟨bf,bl,false⟩):=h
 have hz1:=h.z
 have hfo:=h.fo
 clear h
 go_enter Tryz.func175,Tryz.ntmps175
 go_wp2_with (first|(go_at_call 125;obtain⟨w3,hw3⟩:∃ w3,w3=w2.alloc (.cells (pcC ⟨af,bl,false⟩) 152):=⟨_,rfl⟩;have hk3:w3.heap[w2.heap.size]?=some (.cells (pcC ⟨af,bl,false⟩) 152):=(by rw[hw3];exact heap_alloc_new w2 _);have hb3:Below w2.heap.size w2 w3:=(by rw[hw3];exact(Below.refl _ _).alloc (Nat.le_refl _) _);have hz3:w3.heap.size=w2.heap.size+1:=(by rw[hw3];simp);rw[←hw3];refine(addAllS_any w3 w2.heap.size 0 af bf hA.1 hB.1 (at_first hk3)).mono ?_;rintro r w4 ⟨rfl,hx4,hf4⟩;have hk4:=put_first hk3 hx4 hf4;have hb4:Below w2.heap.size w2 w4:=hb3.trans (hf4.below (Nat.le_refl _) (by omega));clear hw3 hk3 hb3 hx4 hf4 a0 a1 a2 a3 a4 a5 a6 a7 a8 b0 b1 b2 b3 b4 b5 b6 b7 b8 z0 z1 z2 z3 z4 z5 z6 z7 z8 zf aa bb zz zg;have HB4:Hid (Below w2.heap.size w2 w4):=hb4;have HJ4:Hid (JB w4 w.heap.size ⟨af,al,true⟩ ⟨bf,bl,false⟩):=HJ.out.keep (fun j h1 h2=>hb4.block j (by omega));clear HJ;have HJ:=HJ4;clear hlt;have HK4:=hk4;obtain⟨a0,a1,a2,a3,a4,a5,a6,a7,a8⟩:=box9 HJ.out.k0;obtain⟨b0,b1,b2,b3,b4,b5,b6,b7,b8⟩:=box9 HJ.out.k1;obtain⟨z0,z1,z2,z3,z4,z5,z6,z7,z8⟩:=box9z HJ.out.k2;have zf:=zcell HJ.out;have hlt:=HJ.out.lt;simp only at a8 b8;have JA:=HJ.out;have aa:=(fun ob=>box9 (JA.al ob).k0);have bb:=(fun ob=>box9 (JA.al ob).k1);have zz:=(fun ob=>box9z (JA.al ob).k2);have zg:=(fun ob=>zcell (JA.al ob));simp only at aa bb;clear JA;obtain⟨x0,x1,x2,x3,x4,x5,x6,x7,x8⟩:=box9 hk4;have hs4:=hb4.size;clear hb4)|(go_at_call 197;rw[←HP.out.ew];refine hfo.mono ?_;rintro r w2 ⟨rfl,hx,hg⟩;have HX:Hid (ExAt w2 sb vb vf (e.join ⟨af,al,true⟩ ⟨bf,bl,false⟩)):=hx;have HG:Hid (Grw sb w vb vf w2 vb vf):=((Grw.of_below HP.out.bl).trans hg);have HJ:Hid (JB w2 w.heap.size ⟨af,al,true⟩ ⟨bf,bl,false⟩):=HP.out.j.keep (fun j h1 h2=>hg.same (by omega) (fun q=>by have:=HP.out.lt _ q;omega));obtain⟨a0,a1,a2,a3,a4,a5,a6,a7,a8⟩:=box9 HJ.out.k0;obtain⟨b0,b1,b2,b3,b4,b5,b6,b7,b8⟩:=box9 HJ.out.k1;obtain⟨z0,z1,z2,z3,z4,z5,z6,z7,z8⟩:=box9z HJ.out.k2;have zf:=zcell HJ.out;have hlt:=HJ.out.lt;simp only at a8 b8;have JA:=HJ.out;have aa:=(fun ob=>box9 (JA.al ob).k0);have bb:=(fun ob=>box9 (JA.al ob).k1);have zz:=(fun ob=>box9z (JA.al ob).k2);have zg:=(fun ob=>zcell (JA.al ob));simp only at aa bb;clear JA;have HL2:Hid (w.heap.size+2<w2.heap.size):=hlt;clear hx hg))
 obtain⟨W,hW⟩:∃ W,W=S9 w4 (w.heap.size+1+1) ⟨af.or bf,bl,false⟩:=⟨_,rfl⟩
 have hW2:=hW
 simp only[S9] at hW2
 rw[←hW2]
 have hq:W.heap[w.heap.size+1+1]?=some (.cells (pcC ⟨af.or bf,bl,false⟩) 152):=by rw[hW];exact S9_own _ HJ.out.k2
 obtain⟨q0,q1,q2,q3,q4,q5,q6,q7,q8⟩:=box9 hq
 refine bodyPost_ret (v:=pcV ⟨af.or bf,bl,false⟩) (by simp[results,Tryz.results175,go_sem,q0,q1,q2,q3,q4,q5,q6,q7,q8]) rfl ⟨rfl,?_,?_⟩
 ·rw[hW]
  exact ExAt.put (HX.out.below HB4.out) (fun q=>by have:=HP.out.lt _ q;omega) ⟨af.or bf,bl,false⟩
 ·rw[hW]
  exact Grw.put (HG.out.below HB4.out) (by omega) ⟨af.or bf,bl,false⟩
theorem join_ft (w:World) (sb:Nat) (vb vf:Value) (e:Ex) (af al bf bl:W4) (w1:World) (h:JPre w w1 sb vb vf e ⟨af,al,false⟩ ⟨bf,bl,true⟩) (hA:af.ok∧al.ok) (hB:bf.ok∧bl.ok) :
  Calls Tryz.prog 175 #[.pointer (some ⟨sb,0,none⟩),pcV ⟨af,al,false⟩,pcV ⟨bf,bl,true⟩] w fun r w'=>r=.returned (pcV ⟨af,bl.or al,false⟩)∧ExAt w' sb vb vf (e.join ⟨af,al,false⟩ ⟨bf,bl,true⟩)∧Grw sb w vb vf w' vb vf:=by
 have HP:Hid (JPre w w1 sb vb vf e ⟨af,al,false⟩ ⟨bf,bl,true⟩):=h
 have hz1:=h.z
 have hfo:=h.fo
 clear h
 go_enter Tryz.func175,Tryz.ntmps175
 go_wp2_with (first|(go_at_call 125;obtain⟨w3,hw3⟩:∃ w3,w3=w2.alloc (.cells (pcC ⟨af,bl,false⟩) 152):=⟨_,rfl⟩;have hk3:w3.heap[w2.heap.size]?=some (.cells (pcC ⟨af,bl,false⟩) 152):=(by rw[hw3];exact heap_alloc_new w2 _);have hb3:Below w2.heap.size w2 w3:=(by rw[hw3];exact(Below.refl _ _).alloc (Nat.le_refl _) _);have hz3:w3.heap.size=w2.heap.size+1:=(by rw[hw3];simp);rw[←hw3];refine(addAllS_any w3 w2.heap.size 4 bl al hB.2 hA.2 (at_last hk3)).mono ?_;rintro r w4 ⟨rfl,hx4,hf4⟩;have hk4:=put_last hk3 hx4 hf4;have hb4:Below w2.heap.size w2 w4:=hb3.trans (hf4.below (Nat.le_refl _) (by omega));clear hw3 hk3 hb3 hx4 hf4 a0 a1 a2 a3 a4 a5 a6 a7 a8 b0 b1 b2 b3 b4 b5 b6 b7 b8 z0 z1 z2 z3 z4 z5 z6 z7 z8 zf aa bb zz zg;have HB4:Hid (Below w2.heap.size w2 w4):=hb4;have HJ4:Hid (JB w4 w.heap.size ⟨af,al,false⟩ ⟨bf,bl,true⟩):=HJ.out.keep (fun j h1 h2=>hb4.block j (by omega));clear HJ;have HJ:=HJ4;clear hlt;obtain⟨a0,a1,a2,a3,a4,a5,a6,a7,a8⟩:=box9 HJ.out.k0;obtain⟨b0,b1,b2,b3,b4,b5,b6,b7,b8⟩:=box9 HJ.out.k1;obtain⟨z0,z1,z2,z3,z4,z5,z6,z7,z8⟩:=box9z HJ.out.k2;have zf:=zcell HJ.out;have hlt:=HJ.out.lt;simp only at a8 b8;have JA:=HJ.out;have aa:=(fun ob=>box9 (JA.al ob).k0);have bb:=(fun ob=>box9 (JA.al ob).k1);have zz:=(fun ob=>box9z (JA.al ob).k2);have zg:=(fun ob=>zcell (JA.al ob));simp only at aa bb;clear JA;obtain⟨x0,x1,x2,x3,x4,x5,x6,x7,x8⟩:=box9 hk4;have hs4:=hb4.size;clear hb4)|(go_at_call 197;rw[←HP.out.ew];refine hfo.mono ?_;rintro r w2 ⟨rfl,hx,hg⟩;have HX:Hid (ExAt w2 sb vb vf (e.join ⟨af,al,false⟩ ⟨bf,bl,true⟩)):=hx;have HG:Hid (Grw sb w vb vf w2 vb vf):=((Grw.of_below HP.out.bl).trans hg);have HJ:Hid (JB w2 w.heap.size ⟨af,al,false⟩ ⟨bf,bl,true⟩):=HP.out.j.keep (fun j h1 h2=>hg.same (by omega) (fun q=>by have:=HP.out.lt _ q;omega));obtain⟨a0,a1,a2,a3,a4,a5,a6,a7,a8⟩:=box9 HJ.out.k0;obtain⟨b0,b1,b2,b3,b4,b5,b6,b7,b8⟩:=box9 HJ.out.k1;obtain⟨z0,z1,z2,z3,z4,z5,z6,z7,z8⟩:=box9z HJ.out.k2;have zf:=zcell HJ.out;have hlt:=HJ.out.lt;simp only at a8 b8;have JA:=HJ.out;have aa:=(fun ob=>box9 (JA.al ob).k0);have bb:=(fun ob=>box9 (JA.al ob).k1);have zz:=(fun ob=>box9z (JA.al ob).k2);have zg:=(fun ob=>zcell (JA.al ob));simp only at aa bb;clear JA;have HL2:Hid (w.heap.size+2<w2.heap.size):=hlt;clear hx hg))
 obtain⟨W,hW⟩:∃ W,W=S9 w4 (w.heap.size+1+1) ⟨af,bl.or al,false⟩:=⟨_,rfl⟩
 have hW2:=hW
 simp only[S9] at hW2
 rw[←hW2]
 have hq:W.heap[w.heap.size+1+1]?=some (.cells (pcC ⟨af,bl.or al,false⟩) 152):=by rw[hW];exact S9_own _ HJ.out.k2
 obtain⟨q0,q1,q2,q3,q4,q5,q6,q7,q8⟩:=box9 hq
 refine bodyPost_ret (v:=pcV ⟨af,bl.or al,false⟩) (by simp[results,Tryz.results175,go_sem,q0,q1,q2,q3,q4,q5,q6,q7,q8]) rfl ⟨rfl,?_,?_⟩
 ·rw[hW]
  exact ExAt.put (HX.out.below HB4.out) (fun q=>by have:=HP.out.lt _ q;omega) ⟨af,bl.or al,false⟩
 ·rw[hW]
  exact Grw.put (HG.out.below HB4.out) (by omega) ⟨af,bl.or al,false⟩
theorem join_tt (w:World) (sb:Nat) (vb vf:Value) (e:Ex) (af al bf bl:W4) (w1:World) (h:JPre w w1 sb vb vf e ⟨af,al,true⟩ ⟨bf,bl,true⟩) (hA:af.ok∧al.ok) (hB:bf.ok∧bl.ok) :
  Calls Tryz.prog 175 #[.pointer (some ⟨sb,0,none⟩),pcV ⟨af,al,true⟩,pcV ⟨bf,bl,true⟩] w fun r w'=>r=.returned (pcV ⟨af.or bf,bl.or al,true⟩)∧ExAt w' sb vb vf (e.join ⟨af,al,true⟩ ⟨bf,bl,true⟩)∧Grw sb w vb vf w' vb vf:=by
 have HP:Hid (JPre w w1 sb vb vf e ⟨af,al,true⟩ ⟨bf,bl,true⟩):=h
 have hz1:=h.z
 have hfo:=h.fo
 clear h
 go_enter Tryz.func175,Tryz.ntmps175
 go_wp2_with (first|(go_at_call 125;have hk4':=HK4;refine(addAllS_any w4 w2.heap.size 4 bl al hB.2 hA.2 (at_last HK4)).mono ?_;rintro r w5 ⟨rfl,hx5,hf5⟩;have hk5:=put_last HK4 hx5 hf5;have hb5:Below w2.heap.size w2 w5:=HB4.out.trans (hf5.below (Nat.le_refl _) (Array.getElem?_eq_some_iff.1 HK4).1);clear hx5 hf5 HK4 a0 a1 a2 a3 a4 a5 a6 a7 a8 b0 b1 b2 b3 b4 b5 b6 b7 b8 z0 z1 z2 z3 z4 z5 z6 z7 z8 zf aa bb zz zg x0 x1 x2 x3 x4 x5 x6 x7 x8 hk4';have HB5:Hid (Below w2.heap.size w2 w5):=hb5;have HJ5:Hid (JB w5 w.heap.size ⟨af,al,true⟩ ⟨bf,bl,true⟩):=HJ.out.keep (fun j h1 h2=>by rw[hb5.block j (by have:=HL2.out;omega),HB4.out.block j (by have:=HL2.out;omega)]);clear HJ;have HJ:=HJ5;clear hlt;obtain⟨a0,a1,a2,a3,a4,a5,a6,a7,a8⟩:=box9 HJ.out.k0;obtain⟨b0,b1,b2,b3,b4,b5,b6,b7,b8⟩:=box9 HJ.out.k1;obtain⟨z0,z1,z2,z3,z4,z5,z6,z7,z8⟩:=box9z HJ.out.k2;have zf:=zcell HJ.out;have hlt:=HJ.out.lt;simp only at a8 b8;have JA:=HJ.out;have aa:=(fun ob=>box9 (JA.al ob).k0);have bb:=(fun ob=>box9 (JA.al ob).k1);have zz:=(fun ob=>box9z (JA.al ob).k2);have zg:=(fun ob=>zcell (JA.al ob));simp only at aa bb;clear JA;obtain⟨x0,x1,x2,x3,x4,x5,x6,x7,x8⟩:=box9 hk5;have hs5:=hb5.size;clear hb5)|(go_at_call 125;obtain⟨w3,hw3⟩:∃ w3,w3=w2.alloc (.cells (pcC ⟨af,bl,true⟩) 152):=⟨_,rfl⟩;have hk3:w3.heap[w2.heap.size]?=some (.cells (pcC ⟨af,bl,true⟩) 152):=(by rw[hw3];exact heap_alloc_new w2 _);have hb3:Below w2.heap.size w2 w3:=(by rw[hw3];exact(Below.refl _ _).alloc (Nat.le_refl _) _);have hz3:w3.heap.size=w2.heap.size+1:=(by rw[hw3];simp);rw[←hw3];refine(addAllS_any w3 w2.heap.size 0 af bf hA.1 hB.1 (at_first hk3)).mono ?_;rintro r w4 ⟨rfl,hx4,hf4⟩;have hk4:=put_first hk3 hx4 hf4;have hb4:Below w2.heap.size w2 w4:=hb3.trans (hf4.below (Nat.le_refl _) (by omega));clear hw3 hk3 hb3 hx4 hf4 a0 a1 a2 a3 a4 a5 a6 a7 a8 b0 b1 b2 b3 b4 b5 b6 b7 b8 z0 z1 z2 z3 z4 z5 z6 z7 z8 zf aa bb zz zg;have HB4:Hid (Below w2.heap.size w2 w4):=hb4;have HJ4:Hid (JB w4 w.heap.size ⟨af,al,true⟩ ⟨bf,bl,true⟩):=HJ.out.keep (fun j h1 h2=>hb4.block j (by omega));clear HJ;have HJ:=HJ4;clear hlt;have HK4:=hk4;obtain⟨a0,a1,a2,a3,a4,a5,a6,a7,a8⟩:=box9 HJ.out.k0;obtain⟨b0,b1,b2,b3,b4,b5,b6,b7,b8⟩:=box9 HJ.out.k1;obtain⟨z0,z1,z2,z3,z4,z5,z6,z7,z8⟩:=box9z HJ.out.k2;have zf:=zcell HJ.out;have hlt:=HJ.out.lt;simp only at a8 b8;have JA:=HJ.out;have aa:=(fun ob=>box9 (JA.al ob).k0);have bb:=(fun ob=>box9 (JA.al ob).k1);have zz:=(fun ob=>box9z (JA.al ob).k2);have zg:=(fun ob=>zcell (JA.al ob));simp only at aa bb;clear JA;obtain⟨x0,x1,x2,x3,x4,x5,x6,x7,x8⟩:=box9 hk4;have hs4:=hb4.size;clear hb4)|(go_at_call 197;rw[←HP.out.ew];refine hfo.mono ?_;rintro r w2 ⟨rfl,hx,hg⟩;have HX:Hid (ExAt w2 sb vb vf (e.join ⟨af,al,true⟩ ⟨bf,bl,true⟩)):=hx;have HG:Hid (Grw sb w vb vf w2 vb vf):=((Grw.of_below HP.out.bl).trans hg);have HJ:Hid (JB w2 w.heap.size ⟨af,al,true⟩ ⟨bf,bl,true⟩):=HP.out.j.keep (fun j h1 h2=>hg.same (by omega) (fun q=>by have:=HP.out.lt _ q;omega));obtain⟨a0,a1,a2,a3,a4,a5,a6,a7,a8⟩:=box9 HJ.out.k0;obtain⟨b0,b1,b2,b3,b4,b5,b6,b7,b8⟩:=box9 HJ.out.k1;obtain⟨z0,z1,z2,z3,z4,z5,z6,z7,z8⟩:=box9z HJ.out.k2;have zf:=zcell HJ.out;have hlt:=HJ.out.lt;simp only at a8 b8;have JA:=HJ.out;have aa:=(fun ob=>box9 (JA.al ob).k0);have bb:=(fun ob=>box9 (JA.al ob).k1);have zz:=(fun ob=>box9z (JA.al ob).k2);have zg:=(fun ob=>zcell (JA.al ob));simp only at aa bb;clear JA;have HL2:Hid (w.heap.size+2<w2.heap.size):=hlt;clear hx hg))
 obtain⟨W,hW⟩:∃ W,W=S9 w5 (w.heap.size+1+1) ⟨af.or bf,bl.or al,true⟩:=⟨_,rfl⟩
 have hW2:=hW
 simp only[S9] at hW2
 rw[←hW2]
 have hq:W.heap[w.heap.size+1+1]?=some (.cells (pcC ⟨af.or bf,bl.or al,true⟩) 152):=by rw[hW];exact S9_own _ HJ.out.k2
 obtain⟨q0,q1,q2,q3,q4,q5,q6,q7,q8⟩:=box9 hq
 refine bodyPost_ret (v:=pcV ⟨af.or bf,bl.or al,true⟩) (by simp[results,Tryz.results175,go_sem,q0,q1,q2,q3,q4,q5,q6,q7,q8]) rfl ⟨rfl,?_,?_⟩
 ·rw[hW]
  exact ExAt.put (HX.out.below HB5.out) (fun q=>by have:=HP.out.lt _ q;omega) ⟨af.or bf,bl.or al,true⟩
 ·rw[hW]
  exact Grw.put (HG.out.below HB5.out) (by omega) ⟨af.or bf,bl.or al,true⟩
theorem join_any (w:World) (sb:Nat) (vb vf:Value) (e:Ex) (a b:Pc) (n:Nat) (hT:TabZ w) (h1:1<sb) (h:ExAt w sb vb vf e) (hn:n≤64) (he:ExOk n e) (ha:Pcs n a) (hb:Pcs n b) :
  Calls Tryz.prog 175 #[.pointer (some ⟨sb,0,none⟩),pcV a,pcV b] w fun r w'=>r=.returned (pcV (a.join b))∧ExAt w' sb vb vf (e.join a b)∧Grw sb w vb vf w' vb vf:=by
 obtain⟨w1,hp⟩:=jPre w sb vb vf e a b n hT h1 h hn he ha hb
 have hA:=pcs_ok ha hn
 have hB:=pcs_ok hb hn
 obtain⟨af,al,ae⟩:=a
 obtain⟨bf,bl,be⟩:=b
 cases ae<;>cases be
 ·exact join_ff w sb vb vf e af al bf bl w1 hp hA hB
 ·exact join_ft w sb vb vf e af al bf bl w1 hp hA hB
 ·exact join_tf w sb vb vf e af al bf bl w1 hp hA hB
 ·exact join_tt w sb vb vf e af al bf bl w1 hp hA hB
end Go.Proofs.YtbjabpodkaokjaaGreatDoor

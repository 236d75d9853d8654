import Derived.Test.YtbjabpodkaokjaaGreatDoorJ27
import Derived.Great.Walk
set_option linter.unusedVariables false
set_option linter.unusedSimpArgs false
set_option maxHeartbeats 4000000
set_option maxRecDepth 100000
namespace Go.Proofs.YtbjabpodkaokjaaGreatDoor
open Go.RowKit
def zA256:Array Value:=(List.replicate 256 (Value.int .u8 0)).toArray
theorem Tryz.infoA256:(Tryz.prog.info? 160).map (fun i=>(i.zero,i.size,i.bytes))=some (some (.agg zA256),256,256):=by kernel_rfl
theorem wpList_alloc256 {ops:Array Oper}{rest:List Oper}{o:Oper}{a:Act}{w:World}{Q:Exit→Act→World→Prop} (hg:o.guard=none) (ho:o.op=.alloc 160) (dst:Option Tmp) (hdst:o.dst=dst) (N:Nat) (hN:w.heap.size=N)
  (h:wpList Tryz.prog ops Q rest (a.put dst (.pointer (some ⟨N,0,none⟩))) (w.alloc (.cells zA256 160))):wpList Tryz.prog ops Q (o::rest) a w:=by
 obtain⟨i0,hi,hz0,hz1,hz2⟩:=info_parts Tryz.infoA256
 refine Great.wpList_runTo hg dst hdst _ _ ?_ h
 subst hN
 unfold execOp
 simp only[ho,Instr.alloc,zeroValue,newVar,newRow,Sem.run_bind,run_newObj_alloc,Sem.run_pure,Result.andThen_ok]
 have hti:(typeInfo 160).run Tryz.prog w=.ok i0 w:=by unfold typeInfo;simp[hi]
 rw[hti]
 simp[hz0,Value.cells]
theorem nw256 (w:World) (T:TypeId):Nw (w.alloc (.cells zA256 T)) w.heap.size 256 (fun _=>.int .u8 0):=by
 refine⟨fun i hi=>?_,fun o=>by simp[go_sem]⟩
 rw[World.cell?_alloc_at _ _ _ _ rfl]
 unfold zA256
 rw[List.getElem?_toArray,List.getElem?_replicate,if_pos hi]
theorem nw_conv {w:World}{g:Nat}{l:List UInt8} (h:Nw w g 256 (fun j=>.int .u8 ((l[j]?.getD 0).toNat:Int))) (hl:l.length=256):(convert 73 9 (.slice (some ⟨g,0,none⟩) 256 256)).run Tryz.prog w=.ok (.string (ba l)) w:=by
 have:=run_convert_bytes_back (P:=Tryz.prog) w 73 9 5 ⟨g,0,none⟩ 256 l Tryz.underlying73 und_byte und_str (by
  intro j hj
  have:=h.c j (by omega)
  have e:(⟨g,0,none⟩:Addr).add j=⟨g,j,none⟩:=by unfold Addr.add;split<;>simp_all
  rw[e]
  simpa [hj] using this)
 rw[hl] at this
 exact this
structure CI (w:World) (sb a:Nat) (W:World) (v vr:Value) (met:List W4) (f:Nat→Value):Prop where
 num:NumAt 150 4 W (w.heap.size+1) w.heap.size v (met.map W4.v) 0
 ar:Nw W a 256 f
 rc:W.cell? ⟨sb,12,none⟩=some vr
 rf:FsAt 150 W w.heap.size vr met
 nv:∀ g,v.ownBlock=some g→w.heap.size+2≤g∧g≠a∧vr.ownBlock≠some g
 nr:∀ g,vr.ownBlock=some g→w.heap.size+2≤g∧g≠a
 al:w.heap.size+2≤a∧a<W.heap.size
 cs:∀ o,o≠12→W.cell? ⟨sb,o,none⟩=w.cell? ⟨sb,o,none⟩
 fz:∀ o,W.frozen? ⟨sb,o,none⟩=false
 ex:Exc (fun b=>b=sb) w W
 hs:sb<w.heap.size
section
variable {w:World}{sb a:Nat}{W W':World}{v vr:Value}{met:List W4}{f:Nat→Value}
theorem CI.foot (h:CI w sb a W v vr met f) {g:Nat} (hg:Foot (w.heap.size+1) w.heap.size v g):w.heap.size≤g∧g≠a∧vr.ownBlock≠some g:=by
 have h3:=h.al
 rcases hg with rfl|rfl|hg
 ·exact⟨by omega,by omega,fun q=>by have:=(h.nr _ q).1;omega⟩
 ·exact⟨by omega,by omega,fun q=>by have:=(h.nr _ q).1;omega⟩
 ·have:=h.nv g hg.symm
  exact⟨by omega,this.2.1,this.2.2⟩
theorem CI.keep (h:CI w sb a W v vr met f) {S:Nat→Prop} (hx:Exc S W W') (h1:¬ S sb) (h2:∀ b,b<w.heap.size→¬ S b) (h3:∀ g,Foot (w.heap.size+1) w.heap.size v g→¬ S g) (h4:¬ S a) (h5:∀ g,vr.ownBlock=some g→¬ S g):CI w sb a W' v vr met f:=by
 have hsz:=h.ex.size
 have hs:=h.hs
 have es:=hx.block sb (by omega) h1
 refine⟨h.num.exc hx h3,h.ar.of_block (hx.block a h.al.2 h4),?_,h.rf.blk (fun b hb=>hx.block b (h.rf.lt hb).2 (h5 b hb)),h.nv,h.nr,⟨h.al.1,Nat.lt_of_lt_of_le h.al.2 hx.size⟩,fun o ho=>?_,fun o=>?_,?_,hs⟩
 ·rw[←h.rc];simp[World.cell?,es]
 ·rw[←h.cs o ho];simp[World.cell?,es]
 ·rw[←h.fz o];simp[World.frozen?,es]
 ·exact⟨hx.os.trans h.ex.os,hx.tape.trans h.ex.tape,hx.output.trans h.ex.output,Nat.le_trans hsz hx.size,fun b hb hn=>(hx.block b (by omega) (h2 b hb)).trans (h.ex.block b hb hn)⟩
theorem CI.below (h:CI w sb a W v vr met f) (hb:Below W.heap.size W W'):CI w sb a W' v vr met f:=
 h.keep (S:=fun _=>False) (Exc.of_below _ hb) id (fun _ _=>id) (fun _ _=>id) id (fun _ _=>id)
theorem CI.of (h:CI w sb a W v vr met f) {v':Value}{met':List W4} (hn:NumAt 150 4 W' (w.heap.size+1) w.heap.size v' (met'.map W4.v) 0) (hg:∀ g,v'.ownBlock=some g→v.ownBlock=some g∨W.heap.size≤g) (hx:Exc (Foot (w.heap.size+1) w.heap.size v) W W') :
  (W'.heap[sb]?=W.heap[sb]?∧Nw W' a 256 f∧FsAt 150 W' w.heap.size vr met∧(∀ g,v'.ownBlock=some g→w.heap.size+2≤g∧g≠a∧vr.ownBlock≠some g)∧Exc (fun b=>b=sb) w W'∧a<W'.heap.size):=by
 have hsz:=h.ex.size
 have hs:=h.hs
 have hal:=h.al
 refine⟨hx.block sb (by omega) (fun q=>by have:=(h.foot q).1;omega),h.ar.of_block (hx.block a h.al.2 (fun q=>(h.foot q).2.1 rfl)),h.rf.blk (fun b hb=>hx.block b (h.rf.lt hb).2 (fun q=>(h.foot q).2.2 hb)),fun g hg'=>?_,?_,Nat.lt_of_lt_of_le hal.2 hx.size⟩
 ·rcases hg g hg' with q|q
  ·exact h.nv g q
  ·exact⟨by omega,by omega,fun k=>by have:=(h.rf.lt k).2;omega⟩
 ·exact⟨hx.os.trans h.ex.os,hx.tape.trans h.ex.tape,hx.output.trans h.ex.output,Nat.le_trans hsz hx.size,fun b hb hn=>(hx.block b (by omega) (fun q=>by have:=(h.foot q).1;omega)).trans (h.ex.block b hb hn)⟩
theorem CI.old (h:CI w sb a W v vr met f) {v':Value} (hn:NumAt 150 4 W' (w.heap.size+1) w.heap.size v' (met.map W4.v) 0) (hg:∀ g,v'.ownBlock=some g→v.ownBlock=some g∨W.heap.size≤g) (hx:Exc (Foot (w.heap.size+1) w.heap.size v) W W'):CI w sb a W' v' vr met f:=by
 obtain⟨e1,e2,e3,e4,e5,e6⟩:=h.of hn hg hx
 refine⟨hn,e2,?_,e3,e4,h.nr,⟨h.al.1,e6⟩,fun o ho=>?_,fun o=>?_,e5,h.hs⟩
 ·rw[←h.rc];simp[World.cell?,e1]
 ·rw[←h.cs o ho];simp[World.cell?,e1]
 ·rw[←h.fz o];simp[World.frozen?,e1]
theorem CI.set (h:CI w sb a W v vr met f) (k:Nat) (hk:k<256) (x:Value):CI w sb a (W.setCell ⟨a,k,none⟩ x) v vr met (fun j=>if j=k then x else f j):=by
 have hsz:=h.ex.size
 have hs:=h.hs
 have hal:=h.al
 have hx:Exc (fun b=>b=a) W (W.setCell ⟨a,k,none⟩ x):=exc_set rfl
 have hsa:sb≠a:=by omega
 have es:(W.setCell ⟨a,k,none⟩ x).heap[sb]?=W.heap[sb]?:=set_blk _ _ _ _ hsa
 refine⟨h.num.exc hx (fun g hg q=>(h.foot hg).2.1 q),h.ar.set k hk x,?_,h.rf.blk (fun b hb=>hx.block b (h.rf.lt hb).2 (fun q=>(h.nr b hb).2 q)),h.nv,h.nr,⟨hal.1,by rw[size_set'];exact hal.2⟩,fun o ho=>?_,fun o=>?_,?_,hs⟩
 ·rw[←h.rc];simp[World.cell?,es]
 ·rw[←h.cs o ho];simp[World.cell?,es]
 ·rw[←h.fz o];simp[World.frozen?,es]
 ·exact⟨h.ex.os,h.ex.tape,h.ex.output,by rw[size_set'];exact hsz,fun b hb hn=>(hx.block b (by omega) (by omega)).trans (h.ex.block b hb hn)⟩
theorem CI.new (h:CI w sb a W v vr met f) {wa w4:World}{v':Value}{x:W4}{g k H:Nat} (hn:NumAt 150 4 W' (w.heap.size+1) w.heap.size v' ((met++[x]).map W4.v) 0) (hg:∀ g,v'.ownBlock=some g→v.ownBlock=some g∨W.heap.size≤g) (hx:Exc (Foot (w.heap.size+1) w.heap.size v) W W')
  (hwa:Below W'.heap.size W' wa) (ho:w4.ownsRow w.heap.size 150 4 (.slice (some ⟨g,0,none⟩) (met.length+1) k) (met.length+1) (met.flatMap W4.cs++x.cs)) (hH:wa.heap.size=H) (hl:g<w4.heap.size)
  (hc:(vr.ownBlock=some g∧wa.grownBy w4 (some g))∨(g=H∧wa.grownBy w4 none)) :
  CI w sb a (w4.setCell ⟨sb,12,none⟩ (.slice (some ⟨g,0,none⟩) (met.length+1) k)) v' (.slice (some ⟨g,0,none⟩) (met.length+1) k) (met++[x]) f∧w4.cell? ⟨sb,12,none⟩=some vr∧w4.frozen? ⟨sb,12,none⟩=false:=by
 obtain⟨e1,e2,e3,e4,e5,e6⟩:=h.of hn hg hx
 have hsz:=h.ex.size
 have hs:=h.hs
 have hal:=h.al
 have hsz':=hx.size
 have hsza:=hwa.size
 have hgW:vr.ownBlock=some g∨W'.heap.size≤g:=by
  rcases hc with⟨q,_⟩|⟨q,_⟩
  ·exact .inl q
  ·exact .inr (by omega)
 have hga:g≠a∧w.heap.size+2≤g:=by
  rcases hgW with q|q
  ·exact⟨(h.nr g q).2,(h.nr g q).1⟩
  ·exact⟨by omega,by omega⟩
 have blk:∀ b,b<W'.heap.size→vr.ownBlock≠some b→w4.heap[b]?=W'.heap[b]?:=fun b hb hne=>(grown_blk hH hc (by omega) hne).trans (hwa.block b hb)
 obtain⟨g1,g2,g3,g4⟩:=grown_env hc
 have hvs:vr.ownBlock≠some sb:=fun q=>by have:=(h.rf.lt q).1;omega
 have es4:w4.heap[sb]?=W.heap[sb]?:=(blk sb (by omega) hvs).trans e1
 have k12:w4.cell? ⟨sb,12,none⟩=some vr:=by rw[←h.rc];simp[World.cell?,es4]
 have kf:∀ o,w4.frozen? ⟨sb,o,none⟩=false:=fun o=>by rw[←h.fz o];simp[World.frozen?,es4]
 have hftlt:∀ b,Foot (w.heap.size+1) w.heap.size v' b→b<W'.heap.size:=fun b hb=>hn.lt hb
 have hft:∀ b,Foot (w.heap.size+1) w.heap.size v' b→w.heap.size≤b∧vr.ownBlock≠some b:=fun b hb=>by
  rcases hb with rfl|rfl|hb
  ·exact⟨by omega,fun q=>by have:=(h.nr _ q).1;omega⟩
  ·exact⟨by omega,fun q=>by have:=(h.nr _ q).1;omega⟩
  ·have:=e4 b hb.symm
   exact⟨by omega,this.2.2⟩
 refine⟨⟨?_,?_,?_,?_,?_,?_,?_,?_,?_,?_,hs⟩,k12,kf 12⟩
 ·refine hn.keep (fun b hb=>?_)
  rw[set_blk _ _ _ _ (by have:=(hft b hb).1;omega)]
  exact blk b (hftlt b hb) (hft b hb).2
 ·refine e2.of_block ?_
  rw[set_blk _ _ _ _ (by omega)]
  exact blk a e6 (fun q=>(h.nr a q).2 rfl)
 ·exact World.cell?_setCell_same' _ _ _ (by rw[k12];rfl)
 ·have:FsAt 150 w4 w.heap.size (.slice (some ⟨g,0,none⟩) (met.length+1) k) (met++[x]):=by
   unfold FsAt
   simpa using ho
  exact this.blk (fun b hb=>set_blk _ _ _ _ (by simp[Value.ownBlock] at hb;omega))
 ·intro b hb
  refine⟨(e4 b hb).1,(e4 b hb).2.1,fun q=>?_⟩
  simp[Value.ownBlock] at q
  subst q
  rcases hgW with q'|q'
  ·exact(e4 _ hb).2.2 q'
  ·have:=hftlt _ (.inr (.inr hb.symm))
   omega
 ·intro b hb
  simp[Value.ownBlock] at hb
  subst hb
  exact⟨hga.2,hga.1⟩
 ·exact⟨hal.1,by rw[size_set'];omega⟩
 ·intro o ho'
  have:(w4.setCell ⟨sb,12,none⟩ (.slice (some ⟨g,0,none⟩) (met.length+1) k)).cell? ⟨sb,o,none⟩=w4.cell? ⟨sb,o,none⟩:=by simp[go_sem,Ne.symm ho',ho']
  rw[this,←h.cs o ho'];simp[World.cell?,es4]
 ·intro o
  simp[go_sem,kf]
 ·refine⟨g1.trans (hwa.os.trans e5.os),g2.trans (hwa.tape.trans e5.tape),g3.trans (hwa.output.trans e5.output),by rw[size_set'];omega,fun b hb hne=>?_⟩
  rw[set_blk _ _ _ _ hne]
  exact(blk b (by omega) (fun q=>by have:=(h.rf.lt q).1;omega)).trans (e5.block b hb hne)
end
open Go.RowKit
theorem rds_at (bs:List (Nat→Bool)) (k:Nat) (h:k<(rdsM bs).length):(rdsM bs)[k]=rdM k bs 0 W4.none:=by
 simp[rdsM] at h ⊢
theorem rds_len (bs:List (Nat→Bool)):(rdsM bs).length=256:=by simp[rdsM]
theorem rds_sp {bs:List (Nat→Bool)} (hl:bs.length≤64):∀ x∈rdsM bs,Sp bs.length x:=by
 intro x hx
 simp only[rdsM,List.mem_map] at hx
 obtain⟨b,_,rfl⟩:=hx
 have:=rdM_sp b bs 0 W4.none (by omega) (Sp.none 0)
 rwa [Nat.zero_add] at this
def clsF (rds:List W4) (k:Nat) (j:Nat):Value:=if j<k then .int .u8 ((((metL [] rds).idxOf (rds[j]?.getD W4.none):Nat)):Int) else .int .u8 0
theorem classes_any (w:World) (sb base:Nat) (vb:Value) (bs:List (Nat→Bool)) (hl:bs.length≤64) (hc:w.cell? ⟨sb,0,none⟩=some vb) (h:BsAt w base vb bs) (hsb:sb<base) (hr:w.cell? ⟨sb,12,none⟩=some (.slice none 0 0)) (hf:∀ o,w.frozen? ⟨sb,o,none⟩=false) :
  Calls Tryz.prog 74 #[.pointer (some ⟨sb,0,none⟩)] w fun e w'=>e=.returned (.string (ba ((rdsM bs).map fun x=>UInt8.ofNat ((metL [] (rdsM bs)).idxOf x))))∧∃ vr,w'.cell? ⟨sb,12,none⟩=some vr∧FsAt 150 w' w.heap.size vr (metL [] (rdsM bs))∧(∀ o,o≠12→w'.cell? ⟨sb,o,none⟩=w.cell? ⟨sb,o,none⟩)∧(∀ o,w'.frozen? ⟨sb,o,none⟩=false)∧Exc (fun b=>b=sb) w w':=by
 have HRAT:=rds_at bs
 have hRL:=rds_len bs
 have HRSP:=rds_sp hl
 obtain⟨rds,hrds⟩:∃ rds,rds=rdsM bs:=⟨_,rfl⟩
 rw[←hrds] at HRAT hRL HRSP ⊢
 clear hrds
 have hsl:sb<w.heap.size:=cell_lt hc
 have hvb:∀ g,vb.ownBlock=some g→g≠sb∧g<w.heap.size:=fun g hg=>⟨by have:=(h.lt hg).1;omega,(h.lt hg).2⟩
 have HNEW:Hid (∀ w1,NumAt 150 4 w1 (w.heap.size+1) w.heap.size (.slice none 0 0) [] 0→Below w.heap.size w w1→CI w sb w1.heap.size (w1.alloc (.cells zA256 160)) (.slice none 0 0) (.slice none 0 0) [] (fun _=>.int .u8 0)):=fun w1 hn hb=>by
  have hl1:w.heap.size+1<w1.heap.size:=hn.lt (.inl rfl)
  have hal:Below w1.heap.size w1 (w1.alloc (.cells zA256 160)):=(Below.refl _ _).alloc (Nat.le_refl _) _
  have hb2:Below w.heap.size w (w1.alloc (.cells zA256 160)):=hb.trans (hal.mono hb.size)
  have es:=hb2.block sb hsl
  refine⟨hn.keep (fun b hb'=>hal.block b (hn.lt hb')),nw256 _ _,?_,World.ownsRow_nil _ _ _ _,fun g hg=>by simp[Value.ownBlock] at hg,fun g hg=>by simp[Value.ownBlock] at hg,⟨by omega,by simp⟩,fun o _=>by simp[World.cell?,es],fun o=>?_,Exc.of_below _ hb2,hsl⟩
  ·rw[←hr];simp[World.cell?,es]
  ·rw[←hf o];simp[World.frozen?,es]
 have hnew:=newSe_any w
 have HBS:Hid (BsAt w base vb bs):=h
 have HC:Hid (w.cell? ⟨sb,0,none⟩=some vb):=hc
 clear h hc hr hf
 go_enter Tryz.func74,Tryz.ntmps74
 go_wp2_with (first|(refine wpList_alloc256 rfl rfl _ rfl w1.heap.size rfl ?_;generalize hw2:World.alloc w1 _=w2;have hci:=HNEW.out w1 HN1.out HB1.out;rw[hw2] at hci;have HCI:Hid (CI w sb w1.heap.size w2 (.slice none 0 0) (.slice none 0 0) [] (fun _=>.int .u8 0)):=hci;have HAL:Hid (w.heap.size+2≤w1.heap.size):=hci.al.1;clear hw2 hci)|(go_at_call 126;refine hnew.mono ?_;rintro e w1 ⟨rfl,hn1,hb1⟩;have HN1:Hid (NumAt 150 4 w1 (w.heap.size+1) w.heap.size (.slice none 0 0) [] 0):=hn1;have HB1:Hid (Below w.heap.size w w1):=hb1;clear hn1 hb1))
 obtain⟨a,ha⟩:∃ a,a=w1.heap.size:=⟨_,rfl⟩
 rw[←ha] at HCI HAL ⊢
 clear ha hnew
 have HCL:Hid ((metL [] rds).length≤256):=by have:=metL_len [] rds;rw[hRL] at this;show _≤_;simpa using this
 go_loopw [9] (fun i wr=>∃(k:Nat) (v vr:Value),k≤256∧i=.int .i64 k∧CI w sb a wr v vr (metL [] (rds.take k)) (clsF rds k)) (fun i _=>256-(intOf i).toNat)
 case atStart=>exact⟨0,_,_,by omega,rfl,HCI.out⟩
 case round=>
  obtain⟨k,v,vr,hk,rfl,hci⟩:=hrel
  have HC1:Hid (CI w sb a wr v vr (metL [] (rds.take k)) (clsF rds k)):=hci
  by_cases hlt:k<256
  ·have hltI:(k:Int)<256:=by omega
   have hkr:k<rds.length:=by rw[hRL];exact hlt
   have hvc:wr.cell? ⟨sb,0,none⟩=some vb:=(hci.cs 0 (by omega)).trans HC.out
   have hbs:BsAt wr base vb bs:=HBS.out.blk (fun b hb=>hci.ex.block b (hvb b hb).2 (hvb b hb).1)
   have hrd:=readersOf_any wr sb base vb bs k hlt hl hvc hbs
   rw[←HRAT k hkr] at hrd
   have hRm:rds[k]∈rds:=List.getElem_mem _
   have hRok:=(HRSP _ hRm).ok hl
   have hmok:∀ y∈metL [] (rds.take k),y.ok:=fun y hy=>by
    have:y∈rds:=List.mem_of_mem_take (by simpa using mem_metL.1 hy)
    exact(HRSP y this).ok hl
   have hmn:(metL [] (rds.take k)).Nodup:=metL_nodup (by simp) _
   have hml:(metL [] (rds.take k)).length≤256:=by
    have:=metL_len [] (rds.take k)
    simp at this;omega
   have HSUC:Hid (metL [] (rds.take (k+1))=pushM (metL [] (rds.take k)) rds[k]):=metL_take_succ [] hkr
   have HIDX:Hid ((metL [] rds).idxOf rds[k]=(pushM (metL [] (rds.take k)) rds[k]).idxOf rds[k]):=idx_at [] hkr
   have hC256:(metL [] rds).idxOf rds[k]<256:=Nat.lt_of_lt_of_le (idx_metL_lt hRm) HCL.out
   have HCF:Hid (∀ C:Nat,C=(metL [] rds).idxOf rds[k]→∀ j,j<256→(if j=k then(Value.int .u8 (C:Int)) else clsF rds k j)=clsF rds (k+1) j):=fun C hC j hj=>by
    unfold clsF
    by_cases e:j=k
    ·subst e
     rw[if_pos rfl,if_pos (by omega),List.getElem?_eq_getElem hkr,hC];rfl
    ·rw[if_neg e]
     by_cases e2:j<k
     ·rw[if_pos e2,if_pos (by omega)]
     ·rw[if_neg e2,if_neg (by omega)]
   obtain⟨R,hR⟩:∃ R,R=rds[k]:=⟨_,rfl⟩
   obtain⟨m,hm⟩:∃ m,m=metL [] (rds.take k):=⟨_,rfl⟩
   rw[←hR] at hrd hRok HSUC HIDX hC256 HCF
   rw[←hm] at hmok hmn hml HSUC HIDX HC1
   obtain⟨C,hC⟩:∃ C,C=(metL [] rds).idxOf R:=⟨_,rfl⟩
   rw[←hC] at HIDX hC256
   have HCF2:=HCF.out C hC
   have HCF3:Hid (∀ j,j<256→(if j=k then(Value.int .u8 (C:Int)) else clsF rds k j)=clsF rds (k+1) j):=HCF2
   clear hci hvc hbs hRm hR hm hkr HCF HCF2 hC
   have hCI:(C:Int)<256:=by omega
   have hal4:∀ w3:World,Below w3.heap.size w3 (w3.alloc (.cells #[.int .u64 (R.x0:Int),.int .u64 (R.x1:Int),.int .u64 (R.x2:Int),.int .u64 (R.x3:Int)] 150)):=fun w3=>(Below.refl _ _).alloc (Nat.le_refl _) _
   have HOF:Hid (∀ w3,CI w sb a w3 v vr m (clsF rds k)→Calls Tryz.prog 128 #[.pointer (some ⟨w.heap.size+1,0,none⟩),seV R.x0 R.x1 R.x2 R.x3] w3 fun e w'=>e=.returned (.int .i64 (C:Int))∧∃ v',NumAt 150 4 w' (w.heap.size+1) w.heap.size v' ((pushM m R).map W4.v) 0∧(∀ g,v'.ownBlock=some g→v.ownBlock=some g∨w3.heap.size≤g)∧Exc (Foot (w.heap.size+1) w.heap.size v) w3 w'):=fun w3 hc3=>by
    rw[HIDX.out]
    exact ofSe_any w3 (w.heap.size+1) w.heap.size v m 0 R hc3.num hmok hRok (by omega) hmn
   simp only[W4.v] at hrd
   obtain⟨va,vc,hvr⟩:=HC1.out.rf.form
   have HVR:Hid (vr=.slice va m.length vc):=hvr
   by_cases hmem:R∈m
   ·have HPM:Hid (pushM m R=m):=by show _=_;rw[pushM,if_pos hmem]
    have hne:¬ C=m.length:=fun q=>by
     rw[HIDX.out] at q
     exact idx_new.1 q hmem
    have hneb:(((C:Int)==(m.length:Int)):Bool)=false:=by simp;omega
    clear hmem hmok hmn hRok hvr
    go_wp2_with (first|(go_at_call 128;refine(HOF.out (w3.alloc (.cells #[.int .u64 (R.x0:Int),.int .u64 (R.x1:Int),.int .u64 (R.x2:Int),.int .u64 (R.x3:Int)] 150)) (HC3.out.below (hal4 w3))).mono ?_;rintro e w4 ⟨rfl,v',hn4,hg4,hx4⟩;rw[HPM.out] at hn4;have HC4:Hid (CI w sb a w4 v' vr m (clsF rds k)):=(HC3.out.below (hal4 w3)).old hn4 hg4 hx4;have rc4:w4.cell? ⟨sb,12,none⟩=some (.slice va m.length vc):=(by rw[←HVR.out];exact HC4.out.rc);have ac4:=HC4.out.ar.c k hlt;have af4:=HC4.out.ar.fz;clear hn4 hg4 hx4)|(go_at_call 127;refine hrd.mono ?_;rintro e w3 ⟨rfl,hb3⟩;have HC3:Hid (CI w sb a w3 v vr m (clsF rds k)):=HC1.out.below hb3;clear hb3))
    go_roundw
    case rel=>exact⟨k+1,v',vr,by omega,by go_num,by
     have h5:=HC4.out.set k hlt (.int .u8 (C:Int))
     rw[HSUC.out,HPM.out]
     exact⟨h5.num,h5.ar.congr HCF3.out,h5.rc,h5.rf,h5.nv,h5.nr,h5.al,h5.cs,h5.fz,h5.ex,h5.hs⟩⟩
    case measure=>simp[intOf]<;>omega
   ·have HPM:Hid (pushM m R=m++[R]):=by show _=_;rw[pushM,if_neg hmem]
    have hCm:C=m.length:=by rw[HIDX.out];exact idx_new.2 hmem
    subst hCm
    subst hvr
    clear hmem hmok hmn hRok HVR
    have hmI:(m.length:Int)<256:=by omega
    go_wp2_with (first|(go_at_call 128;refine(HOF.out (w3.alloc (.cells #[.int .u64 (R.x0:Int),.int .u64 (R.x1:Int),.int .u64 (R.x2:Int),.int .u64 (R.x3:Int)] 150)) (HC3.out.below (hal4 w3))).mono ?_;rintro e w4 ⟨rfl,v',hn4,hg4,hx4⟩;rw[HPM.out] at hn4;have hsz4:=hx4.size;have hcw:=(HC3.out.below (hal4 w3)).of hn4 hg4 hx4;have rc4:w4.cell? ⟨sb,12,none⟩=some (.slice va m.length vc):=(by rw[←HC3.out.rc];have e5:=hcw.1;have e6:=(hal4 w3).block sb (by have:=HC3.out.hs;have:=HC3.out.ex.size;omega);simp[World.cell?,e5,e6]);have kR4:w4.heap[w3.heap.size]?=some (.cells #[.int .u64 (R.x0:Int),.int .u64 (R.x1:Int),.int .u64 (R.x2:Int),.int .u64 (R.x3:Int)] 150):=(hx4.block _ (by simp) (fun q=>by have:=HC3.out.num.lt q;omega)).trans (heap_alloc_new w3 _);obtain⟨x0,x1,x2,x3⟩:=box4' kR4;have HADD:Hid (∀ {wa w5:World}{g kk H:Nat},Below w4.heap.size w4 wa→w5.ownsRow w.heap.size 150 4 (.slice (some ⟨g,0,none⟩) (m.length+1) kk) (m.length+1) (m.flatMap W4.cs++R.cs)→wa.heap.size=H→g<w5.heap.size→(((Value.slice va m.length vc).ownBlock=some g∧wa.grownBy w5 (some g))∨(g=H∧wa.grownBy w5 none))→CI w sb a (w5.setCell ⟨sb,12,none⟩ (.slice (some ⟨g,0,none⟩) (m.length+1) kk)) v' (.slice (some ⟨g,0,none⟩) (m.length+1) kk) (m++[R]) (clsF rds k)∧w5.cell? ⟨sb,12,none⟩=some (.slice va m.length vc)∧w5.frozen? ⟨sb,12,none⟩=false):=(fun hwa ho hH hl hc=>(HC3.out.below (hal4 w3)).new hn4 hg4 hx4 hwa ho hH hl hc);have HO4:Hid (w4.ownsRow w.heap.size 150 4 (.slice va m.length vc) m.length (m.flatMap W4.cs)):=hcw.2.2.1;have hszw:w.heap.size≤w4.heap.size:=hcw.2.2.2.2.1.size;clear hn4 hg4 hx4 hcw kR4)|(go_at_call 127;refine hrd.mono ?_;rintro e w3 ⟨rfl,hb3⟩;have HC3:Hid (CI w sb a w3 v (.slice va m.length vc) m (clsF rds k)):=HC1.out.below hb3;clear hb3))
    obtain⟨i0,hi0,hz0,hz1,hz2⟩:=info_parts Tryz.infoSp
    have hal:Below w4.heap.size w4 (w4.alloc (.cells #[.int .u64 (R.x0:Int),.int .u64 (R.x1:Int),.int .u64 (R.x2:Int),.int .u64 (R.x3:Int)] 150)):=(Below.refl _ _).alloc (Nat.le_refl _) _
    have d0n:=cell_below hal rc4
    have d0e:=World.new_ne w4 ⟨sb,12,none⟩ rc4
    go_region_law (refine step_append_str _ (by rfl) (.tmp 30) (.tmp 32) 144 (by rfl) w.heap.size 150 i0 _ 4 32 Tryz.underlying144 hi0 hz0 hz1 hz2 (by rfl) (by decide) (.slice va m.length vc) m.length (m.flatMap W4.cs) (by rfl) (show World.ownsRow _ _ _ _ _ _ _ from World.ownsRow.alloc HO4.out _) ⟨w4.heap.size,0,none⟩ 1 1 R.cs (by rfl) (by rfl) (World.news_of_block (w:=w4.alloc (.cells #[.int .u64 (R.x0:Int),.int .u64 (R.x1:Int),.int .u64 (R.x2:Int),.int .u64 (R.x3:Int)] 150)) (heap_alloc_new w4 _)) (by simp[Value.oneCell',W4.cs]) (by omega) (by unfold maxLen;omega) (by omega) (by simp;omega) _ (by rfl) ?_;intro g5 k5 w5 ho5 hc5 hl5;obtain⟨a1,e0,f0⟩:=HADD.out hal.drew ho5 rfl hl5 hc5;have HA:Hid (CI w sb a (w5.setCell ⟨sb,12,none⟩ (.slice (some ⟨g5,0,none⟩) (m.length+1) k5)) v' (.slice (some ⟨g5,0,none⟩) (m.length+1) k5) (m++[R]) (clsF rds k)):=a1;clear ho5 hc5 a1)
    all_goals (
     obtain⟨w6,hw6⟩:∃ w6,w6=w5.setCell ⟨sb,12,none⟩ (.slice (some ⟨g5,0,none⟩) (m.length+1) k5):=⟨_,rfl⟩
     have hc6:=HA.out
     rw[←hw6] at hc6 ⊢
     have HC6:Hid (CI w sb a w6 v' (.slice (some ⟨g5,0,none⟩) (m.length+1) k5) (m++[R]) (clsF rds k)):=hc6
     have ac6:=hc6.ar.c k hlt
     have af6:=hc6.ar.fz
     clear hw6 hc6 HA rc4 d0n d0e e0 f0 x0 x1 x2 x3 hal
     go_wp2
     go_roundw
     case rel=>exact⟨k+1,v',.slice (some ⟨g5,0,none⟩) (m.length+1) k5,by omega,by go_num,by
      have h5:=HC6.out.set k hlt (.int .u8 (m.length:Int))
      rw[HSUC.out,HPM.out]
      exact⟨h5.num,h5.ar.congr HCF3.out,h5.rc,h5.rf,h5.nv,h5.nr,h5.al,h5.cs,h5.fz,h5.ex,h5.hs⟩⟩
     case measure=>simp[intOf]<;>omega)
  ·have hkI:¬(k:Int)<256:=by omega
   have hke:k=256:=by omega
   subst hke
   have hll:(rds.map fun x=>UInt8.ofNat ((metL [] rds).idxOf x)).length=256:=by simp[hRL]
   have hnw:Nw wr a 256 (fun j=>.int .u8 ((((rds.map fun x=>UInt8.ofNat ((metL [] rds).idxOf x)))[j]?.getD 0).toNat:Int)):=hci.ar.congr (fun j hj=>by
    have hjr:j<rds.length:=by omega
    have hidx:(metL [] rds).idxOf rds[j]<256:=Nat.lt_of_lt_of_le (idx_metL_lt (List.getElem_mem hjr)) HCL.out
    unfold clsF
    rw[if_pos hj,List.getElem?_map,List.getElem?_eq_getElem hjr]
    simp only[Option.getD_some,Option.map_some]
    rw[UInt8.toNat_ofNat',Nat.mod_eq_of_lt hidx])
   have hcv:=nw_conv hnw hll
   have HTK:Hid (metL [] (rds.take 256)=metL [] rds):=by show _=_;rw[List.take_of_length_le (by omega)]
   obtain⟨L,hL⟩:∃ L,L=rds.map fun x=>UInt8.ofNat ((metL [] rds).idxOf x):=⟨_,rfl⟩
   rw[←hL] at hcv
   have HL:Hid (L=rds.map fun x=>UInt8.ofNat ((metL [] rds).idxOf x)):=hL
   clear hci hnw hll hL
   go_wp2
   go_ret
   have hf:=HC1.out
   rw[HTK.out] at hf
   exact⟨by rw[←HL.out];rfl,vr,hf.rc,hf.rf,hf.cs,hf.fz,hf.ex⟩
end Go.Proofs.YtbjabpodkaokjaaGreatDoor

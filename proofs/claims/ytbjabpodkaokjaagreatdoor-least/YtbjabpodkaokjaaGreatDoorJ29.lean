import Derived.Test.YtbjabpodkaokjaaGreatDoorJ28
import Derived.Test.YtbjabpodkaokjaaGreatDoorJ15
import Derived.Test.YtbjabpodkaokjaaGreatDoorJ20
import Derived.Lib.BytesEntry
set_option linter.unusedVariables false
set_option linter.unusedSimpArgs false
set_option maxHeartbeats 4000000
set_option maxRecDepth 100000
namespace Go.Proofs.YtbjabpodkaokjaaGreatDoor
open Go.RowKit
abbrev eN (n:Nat):Value:=.int .i64 (n:Int)
theorem own_ty {w:World}{base:Nat}{e:TypeId}{size:Nat}{v:Value}{n g:Nat}{xs:List Value} (h:w.ownsRow base e size v n xs) (hg:v.ownBlock=some g):∃ cs,w.heap[g]?=some (.cells cs e (0,0)):=by
 rcases h.2 with⟨rfl,_⟩|⟨g',cap,cur,rfl,_,h2,_⟩
 ·simp[Value.ownBlock] at hg
 ·simp[Value.ownBlock] at hg
  subst hg
  exact⟨cur,h2⟩
theorem ty_ne {w:World}{g g':Nat}{e e':TypeId}{cs cs':Array Value}{f f':Nat×Nat} (h:w.heap[g]?=some (.cells cs e f)) (h':w.heap[g']?=some (.cells cs' e' f')) (hne:e≠e'):g≠g':=by
 rintro rfl
 rw[h] at h'
 simp at h'
 exact hne h'.2.1
def rowV (K:Nat) (g:Nat):Value:=.slice (some ⟨g,0,none⟩) K K
structure SI (w:World) (tb K:Nat) (W:World) (v va vn:Value) (met:List Stt) (tk:Nat) (acc:List Bool) (rows:List (List Nat)) (gs:List Nat):Prop where
 num:NumAt 244 5 W (w.heap.size+1) w.heap.size v (met.map Stt.v) tk
 nv:∀ g,v.ownBlock=some g→w.heap.size+2≤g
 c4:W.cell? ⟨tb,4,none⟩=some va
 ar:W.ownsRow (w.heap.size+2) 4 1 va acc.length (acc.map eB)
 c5:W.cell? ⟨tb,5,none⟩=some vn
 nr:W.ownsRow (w.heap.size+2) 40 1 vn gs.length (gs.map (rowV K))
 gl:gs.length=rows.length
 rw:∀ j (h1:j<gs.length) (h2:j<rows.length),W.heap[gs[j]]?=some (.cells (rows[j].map eN).toArray 3 (0,0))∧w.heap.size+2≤gs[j]∧rows[j].length=K
 cs:∀ o,o≠4→o≠5→W.cell? ⟨tb,o,none⟩=w.cell? ⟨tb,o,none⟩
 fz:∀ o,W.frozen? ⟨tb,o,none⟩=false
 ex:Exc (fun b=>b=tb) w W
 tl:tb<w.heap.size
theorem own_ge {w:World}{base:Nat}{e:TypeId}{size:Nat}{v:Value}{n g:Nat}{xs:List Value} (h:w.ownsRow base e size v n xs) (hg:v.ownBlock=some g):base≤g:=by
 rcases h.2 with⟨rfl,_⟩|⟨g',cap,cur,rfl,hb,_⟩
 ·simp[Value.ownBlock] at hg
 ·simp[Value.ownBlock] at hg;omega
section
variable {w:World}{tb K:Nat}{W W':World}{v va vn:Value}{met:List Stt}{tk:Nat}{acc:List Bool}{rows:List (List Nat)}{gs:List Nat}
def SFoot (w:World) (v va vn:Value) (gs:List Nat) (b:Nat):Prop:=b=w.heap.size+1∨b=w.heap.size∨v.ownBlock=some b∨va.ownBlock=some b∨vn.ownBlock=some b∨b∈gs
theorem SI.keep (h:SI w tb K W v va vn met tk acc rows gs) {S:Nat→Prop} (hx:Exc S W W') (h1:¬ S tb) (h2:∀ b,b<w.heap.size→¬ S b) (h3:∀ b,SFoot w v va vn gs b→¬ S b):SI w tb K W' v va vn met tk acc rows gs:=by
 have hsz:=h.ex.size
 have htl:=h.tl
 have et:=hx.block tb (by omega) h1
 refine⟨h.num.exc hx (fun b hb=>h3 b ?_),h.nv,?_,own_blk h.ar (fun b hb=>hx.block b (own_lt h.ar hb) (h3 b (.inr (.inr (.inr (.inl hb)))))),?_,own_blk h.nr (fun b hb=>hx.block b (own_lt h.nr hb) (h3 b (.inr (.inr (.inr (.inr (.inl hb))))))),h.gl,fun j j1 j2=>?_,fun o o1 o2=>?_,fun o=>?_,?_,htl⟩
 ·rcases hb with rfl|rfl|hb
  ·exact .inl rfl
  ·exact .inr (.inl rfl)
  ·exact .inr (.inr (.inl hb.symm))
 ·rw[←h.c4];simp[World.cell?,et]
 ·rw[←h.c5];simp[World.cell?,et]
 ·have:=h.rw j j1 j2
  exact⟨(hx.block _ (Array.getElem?_eq_some_iff.1 this.1).1 (h3 _ (.inr (.inr (.inr (.inr (.inr (List.getElem_mem _)))))))).trans this.1,this.2⟩
 ·rw[←h.cs o o1 o2];simp[World.cell?,et]
 ·rw[←h.fz o];simp[World.frozen?,et]
 ·exact⟨hx.os.trans h.ex.os,hx.tape.trans h.ex.tape,hx.output.trans h.ex.output,Nat.le_trans hsz hx.size,fun b hb hn=>(hx.block b (by omega) (h2 b hb)).trans (h.ex.block b hb hn)⟩
theorem SI.below (h:SI w tb K W v va vn met tk acc rows gs) (hb:Below W.heap.size W W'):SI w tb K W' v va vn met tk acc rows gs:=
 h.keep (S:=fun _=>False) (Exc.of_below _ hb) id (fun _ _=>id) (fun _ _=>id)
theorem SI.footn (h:SI w tb K W v va vn met tk acc rows gs) {b:Nat} (hb:Foot (w.heap.size+1) w.heap.size v b):va.ownBlock≠some b∧vn.ownBlock≠some b∧b ∉ gs:=by
 have h0:∀ g,w.heap.size+2≤g→(b=w.heap.size+1∨b=w.heap.size)→g≠b:=fun g h1 h2=>by omega
 rcases hb with hb|hb|hb
 ·refine⟨fun q=>h0 b (own_ge h.ar q) (.inl hb) rfl,fun q=>h0 b (own_ge h.nr q) (.inl hb) rfl,fun q=>?_⟩
  obtain⟨j,hj,rfl⟩:=List.getElem_of_mem q
  exact h0 _ (h.rw j hj (by rw[←h.gl];exact hj)).2.1 (.inl hb) rfl
 ·refine⟨fun q=>h0 b (own_ge h.ar q) (.inr hb) rfl,fun q=>h0 b (own_ge h.nr q) (.inr hb) rfl,fun q=>?_⟩
  obtain⟨j,hj,rfl⟩:=List.getElem_of_mem q
  exact h0 _ (h.rw j hj (by rw[←h.gl];exact hj)).2.1 (.inr hb) rfl
 ·obtain⟨cs,hcs⟩:=own_ty h.num.own hb.symm
  refine⟨fun q=>?_,fun q=>?_,fun q=>?_⟩
  ·obtain⟨ds,hds⟩:=own_ty h.ar q
   exact ty_ne hcs hds (by decide) rfl
  ·obtain⟨ds,hds⟩:=own_ty h.nr q
   exact ty_ne hcs hds (by decide) rfl
  ·obtain⟨j,hj,rfl⟩:=List.getElem_of_mem q
   exact ty_ne hcs (h.rw j hj (by rw[←h.gl];exact hj)).1 (by decide) rfl
theorem SI.of (h:SI w tb K W v va vn met tk acc rows gs) {v':Value}{met':List Stt}{tk':Nat} (hn:NumAt 244 5 W' (w.heap.size+1) w.heap.size v' (met'.map Stt.v) tk') (hg:∀ g,v'.ownBlock=some g→v.ownBlock=some g∨W.heap.size≤g) (hx:Exc (Foot (w.heap.size+1) w.heap.size v) W W'):SI w tb K W' v' va vn met' tk' acc rows gs:=by
 have hsz:=h.ex.size
 have htl:=h.tl
 have hlt:=h.num.lt (.inl rfl)
 have hft:∀ {b},Foot (w.heap.size+1) w.heap.size v b→w.heap.size≤b:=fun {b} hb=>by
  rcases hb with hb|hb|hb
  ·omega
  ·omega
  ·have:=h.nv b hb.symm;omega
 have et:=hx.block tb (by omega) (fun q=>by have:=hft q;omega)
 refine⟨hn,fun g hg'=>?_,?_,own_blk h.ar (fun b hb=>hx.block b (own_lt h.ar hb) (fun q=>(h.footn q).1 hb)),?_,own_blk h.nr (fun b hb=>hx.block b (own_lt h.nr hb) (fun q=>(h.footn q).2.1 hb)),h.gl,fun j j1 j2=>?_,fun o o1 o2=>?_,fun o=>?_,?_,htl⟩
 ·rcases hg g hg' with q|q
  ·exact h.nv g q
  ·omega
 ·rw[←h.c4];simp[World.cell?,et]
 ·rw[←h.c5];simp[World.cell?,et]
 ·have:=h.rw j j1 j2
  exact⟨(hx.block _ (Array.getElem?_eq_some_iff.1 this.1).1 (fun q=>(h.footn q).2.2 (List.getElem_mem _))).trans this.1,this.2⟩
 ·rw[←h.cs o o1 o2];simp[World.cell?,et]
 ·rw[←h.fz o];simp[World.frozen?,et]
 ·exact⟨hx.os.trans h.ex.os,hx.tape.trans h.ex.tape,hx.output.trans h.ex.output,Nat.le_trans hsz hx.size,fun b hb hn=>(hx.block b (by omega) (fun q=>by have:=hft q;omega)).trans (h.ex.block b hb hn)⟩
theorem SI.acc1 (h:SI w tb K W v va vn met tk acc rows gs) {wa w4:World}{x:Bool}{g k H:Nat} (hwa:Below W.heap.size W wa) (ho:w4.ownsRow (w.heap.size+2) 4 1 (.slice (some ⟨g,0,none⟩) (acc.length+1) k) (acc.length+1) (acc.map eB++[eB x])) (hH:wa.heap.size=H)
  (hc:(va.ownBlock=some g∧wa.grownBy w4 (some g))∨(g=H∧wa.grownBy w4 none)) :
  SI w tb K (w4.setCell ⟨tb,4,none⟩ (.slice (some ⟨g,0,none⟩) (acc.length+1) k)) v (.slice (some ⟨g,0,none⟩) (acc.length+1) k) vn met tk (acc++[x]) rows gs∧w4.cell? ⟨tb,4,none⟩=some va∧w4.frozen? ⟨tb,4,none⟩=false:=by
 have hsz:=h.ex.size
 have htl:=h.tl
 have hsza:=hwa.size
 have blk:∀ b,b<W.heap.size→va.ownBlock≠some b→w4.heap[b]?=W.heap[b]?:=fun b hb hne=>(grown_blk hH hc (by omega) hne).trans (hwa.block b hb)
 obtain⟨g1,g2,g3,g4⟩:=grown_env hc
 have hvt:va.ownBlock≠some tb:=fun q=>by have:=own_ge h.ar q;omega
 have et:w4.heap[tb]?=W.heap[tb]?:=blk tb (by omega) hvt
 have k4:w4.cell? ⟨tb,4,none⟩=some va:=by rw[←h.c4];simp[World.cell?,et]
 have k5:w4.cell? ⟨tb,5,none⟩=some vn:=by rw[←h.c5];simp[World.cell?,et]
 have kf:∀ o,w4.frozen? ⟨tb,o,none⟩=false:=fun o=>by rw[←h.fz o];simp[World.frozen?,et]
 have hga:=own_ge ho (g:=g) rfl
 have nb:∀ b,vn.ownBlock=some b→va.ownBlock≠some b:=fun b hb q=>by
  obtain⟨cs,hcs⟩:=own_ty h.nr hb
  obtain⟨ds,hds⟩:=own_ty h.ar q
  exact ty_ne hcs hds (by decide) rfl
 have gb:∀ b,b∈gs→va.ownBlock≠some b:=fun b hb q=>by
  obtain⟨ds,hds⟩:=own_ty h.ar q
  obtain⟨j,hj,rfl⟩:=List.getElem_of_mem hb
  exact ty_ne hds (h.rw j hj (by rw[←h.gl];exact hj)).1 (by decide) rfl
 refine⟨⟨?_,h.nv,?_,?_,?_,?_,h.gl,fun j j1 j2=>?_,fun o o1 o2=>?_,fun o=>?_,?_,htl⟩,k4,kf 4⟩
 ·refine h.num.keep (fun b hb=>?_)
  have hge:w.heap.size≤b:=by
   rcases hb with hb|hb|hb
   ·omega
   ·omega
   ·have:=h.nv b hb.symm;omega
  rw[set_blk _ _ _ _ (by omega)]
  exact blk b (h.num.lt hb) (fun q=>(h.footn hb).1 q)
 ·exact World.cell?_setCell_same' _ _ _ (by rw[k4];rfl)
 ·have:w4.ownsRow (w.heap.size+2) 4 1 (.slice (some ⟨g,0,none⟩) (acc.length+1) k) (acc++[x]).length ((acc++[x]).map eB):=by simpa using ho
  exact own_blk this (fun b hb=>set_blk _ _ _ _ (by simp[Value.ownBlock] at hb;omega))
 ·simp[go_sem,k5]
 ·exact own_blk h.nr (fun b hb=>(set_blk _ _ _ _ (by have:=own_ge h.nr hb;omega)).trans (blk b (own_lt h.nr hb) (nb b hb)))
 ·have:=h.rw j j1 j2
  refine⟨?_,this.2⟩
  rw[set_blk _ _ _ _ (by omega)]
  exact(blk _ (Array.getElem?_eq_some_iff.1 this.1).1 (gb _ (List.getElem_mem _))).trans this.1
 ·have:(w4.setCell ⟨tb,4,none⟩ (.slice (some ⟨g,0,none⟩) (acc.length+1) k)).cell? ⟨tb,o,none⟩=w4.cell? ⟨tb,o,none⟩:=by simp[go_sem,Ne.symm o1,o1]
  rw[this,←h.cs o o1 o2];simp[World.cell?,et]
 ·simp[go_sem,kf]
 ·refine⟨g1.trans (hwa.os.trans h.ex.os),g2.trans (hwa.tape.trans h.ex.tape),g3.trans (hwa.output.trans h.ex.output),by rw[size_set'];omega,fun b hb hne=>?_⟩
  rw[set_blk _ _ _ _ hne]
  exact(blk b (by omega) (fun q=>by have:=own_ge h.ar q;omega)).trans (h.ex.block b hb hne)
theorem SI.row1 (h:SI w tb K W v va vn met tk acc rows gs) {wa w4:World}{r:List Nat}{q g k H:Nat} (hr:W.heap[q]?=some (.cells (r.map eN).toArray 3 (0,0))) (hq:w.heap.size+2≤q) (hrl:r.length=K) (hwa:Below W.heap.size W wa) (ho:w4.ownsRow (w.heap.size+2) 40 1 (.slice (some ⟨g,0,none⟩) (gs.length+1) k) (gs.length+1) (gs.map (rowV K)++[rowV K q])) (hH:wa.heap.size=H)
  (hc:(vn.ownBlock=some g∧wa.grownBy w4 (some g))∨(g=H∧wa.grownBy w4 none)) :
  SI w tb K (w4.setCell ⟨tb,5,none⟩ (.slice (some ⟨g,0,none⟩) (gs.length+1) k)) v va (.slice (some ⟨g,0,none⟩) (gs.length+1) k) met tk acc (rows++[r]) (gs++[q])∧w4.cell? ⟨tb,5,none⟩=some vn∧w4.frozen? ⟨tb,5,none⟩=false:=by
 have hsz:=h.ex.size
 have htl:=h.tl
 have hsza:=hwa.size
 have blk:∀ b,b<W.heap.size→vn.ownBlock≠some b→w4.heap[b]?=W.heap[b]?:=fun b hb hne=>(grown_blk hH hc (by omega) hne).trans (hwa.block b hb)
 obtain⟨g1,g2,g3,g4⟩:=grown_env hc
 have hvt:vn.ownBlock≠some tb:=fun q=>by have:=own_ge h.nr q;omega
 have et:w4.heap[tb]?=W.heap[tb]?:=blk tb (by omega) hvt
 have k4:w4.cell? ⟨tb,4,none⟩=some va:=by rw[←h.c4];simp[World.cell?,et]
 have k5:w4.cell? ⟨tb,5,none⟩=some vn:=by rw[←h.c5];simp[World.cell?,et]
 have kf:∀ o,w4.frozen? ⟨tb,o,none⟩=false:=fun o=>by rw[←h.fz o];simp[World.frozen?,et]
 have hga:=own_ge ho (g:=g) rfl
 have nb:∀ b,va.ownBlock=some b→vn.ownBlock≠some b:=fun b hb q=>by
  obtain⟨cs,hcs⟩:=own_ty h.ar hb
  obtain⟨ds,hds⟩:=own_ty h.nr q
  exact ty_ne hcs hds (by decide) rfl
 have tb':∀ b cs,W.heap[b]?=some (.cells cs 3 (0,0))→vn.ownBlock≠some b:=fun b cs hb q=>by
  obtain⟨ds,hds⟩:=own_ty h.nr q
  exact ty_ne hds hb (by decide) rfl
 refine⟨⟨?_,h.nv,?_,?_,?_,?_,by simp[h.gl],fun j j1 j2=>?_,fun o o1 o2=>?_,fun o=>?_,?_,htl⟩,k5,kf 5⟩
 ·refine h.num.keep (fun b hb=>?_)
  have hge:w.heap.size≤b:=by
   rcases hb with hb|hb|hb
   ·omega
   ·omega
   ·have:=h.nv b hb.symm;omega
  rw[set_blk _ _ _ _ (by omega)]
  exact blk b (h.num.lt hb) (fun q=>(h.footn hb).2.1 q)
 ·simp[go_sem,k4]
 ·exact own_blk h.ar (fun b hb=>(set_blk _ _ _ _ (by have:=own_ge h.ar hb;omega)).trans (blk b (own_lt h.ar hb) (nb b hb)))
 ·exact World.cell?_setCell_same' _ _ _ (by rw[k5];rfl)
 ·have:w4.ownsRow (w.heap.size+2) 40 1 (.slice (some ⟨g,0,none⟩) (gs.length+1) k) (gs++[q]).length ((gs++[q]).map (rowV K)):=by simpa using ho
  exact own_blk this (fun b hb=>set_blk _ _ _ _ (by simp[Value.ownBlock] at hb;omega))
 ·have e:∀ b cs,W.heap[b]?=some (.cells cs 3 (0,0))→w.heap.size+2≤b→(w4.setCell ⟨tb,5,none⟩ (.slice (some ⟨g,0,none⟩) (gs.length+1) k)).heap[b]?=some (.cells cs 3 (0,0)):=fun b cs hb hge=>by
   rw[set_blk _ _ _ _ (by omega)]
   exact(blk b (Array.getElem?_eq_some_iff.1 hb).1 (tb' b cs hb)).trans hb
  rcases Nat.lt_or_ge j gs.length with hj|hj
  ·have hj2:j<rows.length:=by rw[←h.gl];exact hj
   have:=h.rw j hj hj2
   rw[List.getElem_append_left hj,List.getElem_append_left hj2]
   exact⟨e _ _ this.1 this.2.1,this.2⟩
  ·have hje:j=gs.length:=by simp at j1;omega
   subst hje
   simp only[List.getElem_append_right (Nat.le_refl _),Nat.sub_self,List.getElem_cons_zero]
   have hx:(rows++[r])[gs.length]'j2=r:=by
    rw[List.getElem_append_right (by rw[h.gl];exact Nat.le_refl _)]
    simp[h.gl]
   rw[hx]
   exact⟨e _ _ hr hq,hq,hrl⟩
 ·have:(w4.setCell ⟨tb,5,none⟩ (.slice (some ⟨g,0,none⟩) (gs.length+1) k)).cell? ⟨tb,o,none⟩=w4.cell? ⟨tb,o,none⟩:=by simp[go_sem,Ne.symm o2,o2]
  rw[this,←h.cs o o1 o2];simp[World.cell?,et]
 ·simp[go_sem,kf]
 ·refine⟨g1.trans (hwa.os.trans h.ex.os),g2.trans (hwa.tape.trans h.ex.tape),g3.trans (hwa.output.trans h.ex.output),by rw[size_set'];omega,fun b hb hne=>?_⟩
  rw[set_blk _ _ _ _ hne]
  exact(blk b (by omega) (fun q=>by have:=own_ge h.nr q;omega)).trans (h.ex.block b hb hne)
end
open Go.RowKit
theorem ix_first {α:Type} [DecidableEq α] {xs:List α}{k:Nat} (hk:k<xs.length) (h:xs[k] ∉ xs.take k):ixL xs xs[k]=k:=by
 obtain⟨x,hx⟩:∃ x,x=xs[k]:=⟨_,rfl⟩
 rw[←hx] at h ⊢
 have e:xs=xs.take k++x::xs.drop (k+1):=by
  rw[hx,←List.drop_eq_getElem_cons hk,List.take_append_drop]
 unfold ixL
 rw[e,List.idxOf_append,if_neg h,List.length_take,Nat.min_eq_left (by omega),List.idxOf_cons_self]
 omega
def oldK (cls:List Nat) (cols:List (List UInt8)) (k:Nat):List Nat:=(metL [] (cols.take k)).map fun col=>cls.getD (ixL cols col) 0
theorem oldK_old {cls:List Nat}{cols:List (List UInt8)}{k:Nat} (hk:k<cols.length) (h:cols[k]∈metL [] (cols.take k)):oldK cls cols (k+1)=oldK cls cols k:=by
 unfold oldK
 rw[metL_take_succ [] hk,pushM,if_pos h]
theorem oldK_new {cls:List Nat}{cols:List (List UInt8)}{k:Nat} (hk:k<cols.length) (hl:cls.length=cols.length) (h:cols[k] ∉ metL [] (cols.take k)):oldK cls cols (k+1)=oldK cls cols k++[cls[k]'(by omega)]:=by
 have h2:cols[k] ∉ cols.take k:=fun q=>h (mem_metL.2 (.inr q))
 unfold oldK
 rw[metL_take_succ [] hk,pushM,if_neg h,List.map_append,List.map_cons,List.map_nil,ix_first hk h2,List.getD_eq_getElem?_getD,List.getElem?_eq_getElem (by omega)]
 rfl
theorem oldK_len (cls:List Nat) (cols:List (List UInt8)) (k:Nat):(oldK cls cols k).length=(metL [] (cols.take k)).length:=by simp[oldK]
def jnF (cols:List (List UInt8)) (k j:Nat):Value:=if j<k then .int .u8 ((ixL (metL [] cols) (cols[j]?.getD []):Nat):Int) else .int .u8 0
structure JI (S:Nat) (wS:World) (fb:Nat) (W:World) (v vo:Value) (met:List (List UInt8)) (f:Nat→Value) (olds:List Nat):Prop where
 li:LI S wS fb 256 W v met f
 ow:W.ownsRow (fb+1) 3 1 vo olds.length (olds.map eN)
section
variable {S:Nat}{wS:World}{fb:Nat}{W W':World}{v vo:Value}{met:List (List UInt8)}{f:Nat→Value}{olds:List Nat}
theorem JI.below (h:JI S wS fb W v vo met f olds) (hS:wS.heap.size=S) (hb:Below W.heap.size W W'):JI S wS fb W' v vo met f olds:=⟨h.li.below hS hb,own_blk h.ow (fun b hb'=>hb.block b (own_lt h.ow hb'))⟩
theorem JI.of (h:JI S wS fb W v vo met f olds) {v':Value}{met':List (List UInt8)} (hn:NumAt 9 1 W' (S+1) S v' (met'.map sgV) 0) (hg:∀ g,v'.ownBlock=some g→v.ownBlock=some g∨W.heap.size≤g) (hx:Exc (Foot (S+1) S v) W W'):JI S wS fb W' v' vo met' f olds:=by
 refine⟨h.li.of hn hg hx,own_blk h.ow (fun b hb=>hx.block b (own_lt h.ow hb) (fun q=>?_))⟩
 have h1:=own_ge h.ow hb
 have h2:=h.li.fb2
 rcases q with q|q|q
 ·omega
 ·omega
 ·obtain⟨cs,hcs⟩:=own_ty h.li.num.own q.symm
  obtain⟨ds,hds⟩:=own_ty h.ow hb
  exact ty_ne hcs hds (by decide) rfl
theorem JI.set (h:JI S wS fb W v vo met f olds) (k:Nat) (hk:k<256) (x:Value):JI S wS fb (W.setCell ⟨fb,k,none⟩ x) v vo met (fun j=>if j=k then x else f j) olds:=
 ⟨h.li.set k hk x,own_blk h.ow (fun b hb=>set_blk _ _ _ _ (by have:=own_ge h.ow hb;omega))⟩
theorem JI.app (h:JI S wS fb W v vo met f olds) (hS:wS.heap.size=S) {wa w4:World}{x g k H:Nat} (hwa:Below W.heap.size W wa) (ho:w4.ownsRow (fb+1) 3 1 (.slice (some ⟨g,0,none⟩) (olds.length+1) k) (olds.length+1) (olds.map eN++[eN x])) (hH:wa.heap.size=H)
  (hc:(vo.ownBlock=some g∧wa.grownBy w4 (some g))∨(g=H∧wa.grownBy w4 none)):JI S wS fb w4 v (.slice (some ⟨g,0,none⟩) (olds.length+1) k) met f (olds++[x]):=by
 have hsza:=hwa.size
 have hlt:=h.li.lt
 have h2:=h.li.fb2
 have hsz:=h.li.bl.size
 have blk:∀ b,b<W.heap.size→vo.ownBlock≠some b→w4.heap[b]?=W.heap[b]?:=fun b hb hne=>(grown_blk hH hc (by omega) hne).trans (hwa.block b hb)
 obtain⟨g1,g2,g3,g4⟩:=grown_env hc
 refine⟨⟨h.li.num.keep (fun b hb=>blk b (h.li.num.lt hb) (fun q=>?_)),h.li.nv,h2,h.li.fi.of_block (blk fb hlt (fun q=>by have:=own_ge h.ow q;omega)),⟨g1.trans (hwa.os.trans h.li.bl.os),g2.trans (hwa.tape.trans h.li.bl.tape),g3.trans (hwa.output.trans h.li.bl.output),by omega,fun b hb=>?_⟩,by omega⟩,by simpa using ho⟩
 ·have h1:=own_ge h.ow q
  rcases hb with hb|hb|hb
  ·omega
  ·omega
  ·obtain⟨cs,hcs⟩:=own_ty h.li.num.own hb.symm
   obtain⟨ds,hds⟩:=own_ty h.ow q
   exact ty_ne hcs hds (by decide) rfl
 ·exact(blk b (by omega) (fun q=>by have:=own_ge h.ow q;omega)).trans (h.li.bl.block b hb)
end
open Go.RowKit
theorem own_rowE {α:Type}{enc:α→Value}{w:World}{base:Nat}{e:TypeId}{v:Value}{l:List α} (h:w.ownsRow base e 1 v l.length (l.map enc)):RowE enc w v l:=by
 rcases h.2 with⟨rfl,hn⟩|⟨g,cap,cur,rfl,_⟩
 ·exact .inl ⟨List.eq_nil_of_length_eq_zero hn,none,0,rfl⟩
 ·refine .inr ⟨g,0,cap,rfl,fun j hj=>?_⟩
  rw[Nat.zero_add,h.cellAt j (by omega)]
  simp[hj]
theorem rowE_map {w:World}{v:Value}{l:List Nat} (h:RowE eN w v l):RowE eI w v (l.map Int.ofNat):=by
 rcases h with⟨rfl,a,c,rfl⟩|⟨b,o,c,rfl,hc⟩
 ·exact .inl ⟨rfl,a,c,rfl⟩
 ·refine .inr ⟨b,o,c,by simp,fun j hj=>?_⟩
  have:=hc j (by simpa using hj)
  simpa using this
theorem joinL_any (w:World) (f b:Bool) (st:Int) (va vn vb:Value) (cls:List Nat) (next:List (List Nat)) (bl:List UInt8) (hN:RowsE eI w vn (nxI next)) (hB:RowE byV w vb bl) (K:Nat) (hcl:cls.length=256) (hck:∀ c∈cls,c<K) (hK:K≤256) (hrow:∀ r∈next,r.length=K∧∀ x∈r,x<bl.length) (hnl:next.length≤200) (hbl:bl.length≤200) (cols:List (List UInt8)) (hcols:cols=cls.map (colM bl next)) :
  Calls Tryz.prog 80 #[.agg #[.bool f,.bool b,.int .i64 st,.string (ba (cls.map UInt8.ofNat)),va,vn],vb] w fun e w'=>∃ v,e=.returned (.tuple #[.string (ba ((cols.map (ixL (metL [] cols))).map UInt8.ofNat)),v])∧(∃ base,w.heap.size≤base∧w'.ownsRow base 3 1 v (oldsM cls cols).length ((oldsM cls cols).map eN))∧Below w.heap.size w w':=by
 have hcolL:cols.length=256:=by rw[hcols];simp[hcl]
 have HCOL:Hid (∀ k (h:k<cls.length),cols[k]'(by omega)=colM bl next cls[k]):=fun k h=>by simp[hcols]
 have HCLEN:Hid (∀ l∈cols,l.length≤200):=fun l hl=>by
  rw[hcols] at hl
  obtain⟨c,_,rfl⟩:=List.mem_map.1 hl
  simp[colM];exact hnl
 have HML:Hid ((metL [] cols).length≤256):=by show _≤_;have:=metL_len [] cols;simp at this;omega
 clear hcols
 obtain⟨iI,hiI,hzI,hz1I,hz2I⟩:=info_parts Tryz.infoI
 have HN:Hid (RowsE eI w vn (nxI next)):=hN
 have HB:Hid (RowE byV w vb bl):=hB
 obtain⟨cb,hcb⟩:∃ cb,cb=ba (cls.map UInt8.ofNat):=⟨_,rfl⟩
 have hcs:cb.size=256:=by rw[hcb,ba_size];simp[hcl]
 have HCB:Hid (∀ k (h:k<cb.size),(cb[k]'h).toNat=cls[k]'(by omega)):=fun k h=>by
  have hk:k<cls.length:=by omega
  have e:(cb[k]'h)=UInt8.ofNat cls[k]:=by
   subst hcb
   show((cls.map UInt8.ofNat).toArray)[k]=_
   simp
  rw[e,UInt8.toNat_ofNat',Nat.mod_eq_of_lt (by have:=hck _ (List.getElem_mem hk);omega)]
 rw[←hcb]
 obtain⟨w1,hw1⟩:∃ w1,w1=w.alloc (.cells #[.bool f,.bool b,.int .i64 st,.string cb,va,vn] 33):=⟨_,rfl⟩
 have hb1:Below w.heap.size w w1:=by rw[hw1];exact(Below.refl _ _).alloc (Nat.le_refl _) _
 have hk1:w1.heap[w.heap.size]?=some (.cells #[.bool f,.bool b,.int .i64 st,.string cb,va,vn] 33):=by rw[hw1];exact heap_alloc_new w _
 have hs1:w1.heap.size=w.heap.size+1:=by rw[hw1];simp
 have hnew:=newSg_any w1
 obtain⟨S,hS⟩:∃ S,S=w1.heap.size:=⟨_,rfl⟩
 rw[←hS] at hnew
 have HS:Hid (w1.heap.size=S):=hS.symm
 have hSw:w.heap.size+1=S:=by omega
 have HINIT:Hid (∀ w3,NumAt 9 1 w3 (S+1) S (.slice none 0 0) [] 0→Below S w1 w3→JI S w1 w3.heap.size (w3.alloc (.cells zA256 160)) (.slice none 0 0) (.slice none 0 0) [] (jnF cols 0) []):=fun w3 hn hb=>by
  have hl1:=hn.lt (.inl rfl)
  have hal:Below w3.heap.size w3 (w3.alloc (.cells zA256 160)):=(Below.refl _ _).alloc (Nat.le_refl _) _
  refine⟨⟨hn.keep (fun q hq=>hal.block q (hn.lt hq)),fun g hg=>by simp[Value.ownBlock] at hg,by omega,(nw256 w3 _).congr (fun j hj=>by simp[jnF]),hb.trans (hal.mono (by have:=hb.size;omega)),by simp⟩,World.ownsRow_nil _ _ _ _⟩
 have HBOX:Hid (∀ W,Below S w1 W→W.heap[w.heap.size]?=some (.cells #[.bool f,.bool b,.int .i64 st,.string cb,va,vn] 33)):=fun W hb=>(hb.block _ (by omega)).trans hk1
 have HSZ:Hid (w.heap.size≤S):=by have:=hb1.size;show _≤_;omega
 have HBEL:Hid (∀ W,Below S w1 W→Below w.heap.size w W):=fun W hb=>hb1.trans (hb.mono (by omega))
 have HW:Hid (w1=w.alloc (.cells #[.bool f,.bool b,.int .i64 st,.string cb,va,vn] 33)):=hw1
 clear hN hB hcb hb1 hk1 hs1 hS hw1
 go_enter Tryz.func80,Tryz.ntmps80
 go_wp2_with (first|(refine wpList_alloc256 rfl rfl _ rfl w3.heap.size rfl ?_;generalize hw4:World.alloc w3 _=w4;have hji:=HINIT.out w3 HN3.out HB3.out;rw[hw4] at hji;have HJI:Hid (JI S w1 w3.heap.size w4 (.slice none 0 0) (.slice none 0 0) [] (jnF cols 0) []):=hji;clear hw4 hji)|(go_at_call 138;rw[←HW.out];refine hnew.mono ?_;rintro e w3 ⟨rfl,hn3,hb3⟩;have HN3:Hid (NumAt 9 1 w3 (S+1) S (.slice none 0 0) [] 0):=hn3;have HB3:Hid (Below S w1 w3):=hb3;clear hn3 hb3))
 obtain⟨fb,hfb⟩:∃ fb,fb=w3.heap.size:=⟨_,rfl⟩
 rw[←hfb] at HJI ⊢
 clear hfb hnew HINIT
 go_loopw [8,13] (fun vo i wr=>∃(k:Nat) (v:Value),k≤256∧i=.int .i64 k∧JI S w1 fb wr v vo (metL [] (cols.take k)) (jnF cols k) (oldK cls cols k)) (fun _ i _=>256-(intOf i).toNat)
 case atStart=>exact⟨0,_,by omega,rfl,HJI.out⟩
 case round=>
  obtain⟨k,v,hk,rfl,hji⟩:=hrel
  have HJ1:Hid (JI S w1 fb wr v u8 (metL [] (cols.take k)) (jnF cols k) (oldK cls cols k)):=hji
  obtain⟨oa,oc,hvo⟩:=own_form hji.ow
  by_cases hlt:k<256
  ·have hltI:(k:Int)<256:=by omega
   have hkc:k<cls.length:=by omega
   have hkl:k<cols.length:=by omega
   have hold:=hck _ (List.getElem_mem hkc)
   have hbx:=HBOX.out wr hji.li.bl
   obtain⟨t0,t1,t2,t3,t4,t5⟩:=box6' hbx
   have hco:=column_any wr f b st cb va vn vb next bl cls[k] (HN.out.below (HBEL.out wr hji.li.bl)) (HB.out.below (HBEL.out wr hji.li.bl)) (fun r hr=>⟨by rw[(hrow r hr).1];exact hold,(hrow r hr).2,by rw[(hrow r hr).1];exact hK⟩) hnl hbl
   rw[←HCOL.out k hkc] at hco
   have hLm:cols[k]∈cols:=List.getElem_mem _
   have HSUC:Hid (metL [] (cols.take (k+1))=pushM (metL [] (cols.take k)) cols[k]):=metL_take_succ [] hkl
   have HIX:Hid (ixL (metL [] cols) cols[k]=@List.idxOf _ instBEqOfDecidableEq cols[k] (pushM (metL [] (cols.take k)) cols[k])):=idx_at [] hkl
   have hC:ixL (metL [] cols) cols[k]<256:=by
    have h1:ixL (metL [] cols) cols[k]<(metL [] cols).length:=ixL_lt (mem_metL.2 (.inr hLm))
    have:=HML.out;omega
   have HFF:Hid (∀ j,j<256→(if j=k then(Value.int .u8 ((ixL (metL [] cols) cols[k]:Nat):Int)) else jnF cols k j)=jnF cols (k+1) j):=fun j hj=>by
    unfold jnF
    by_cases e:j=k
    ·subst e
     rw[if_pos rfl,if_pos (by omega),List.getElem?_eq_getElem hkl];rfl
    ·rw[if_neg e]
     by_cases e2:j<k
     ·rw[if_pos e2,if_pos (by omega)]
     ·rw[if_neg e2,if_neg (by omega)]
   have hml:(metL [] (cols.take k)).length≤256:=by have:=metL_len [] (cols.take k);simp at this;omega
   have hnum:=(fun W (h:JI S w1 fb W v u8 (metL [] (cols.take k)) (jnF cols k) (oldK cls cols k))=>ofSg_any W (S+1) S v (metL [] (cols.take k)) 0 cols[k] h.li.num (fun y hy=>by
    have:y∈cols:=List.mem_of_mem_take (by simpa using mem_metL.1 hy)
    have:=HCLEN.out y this;omega) (by have:=HCLEN.out _ hLm;omega) (by omega) (metL_nodup (by simp) _))
   simp only[←HIX.out] at hnum
   have HOF:Hid (∀ W,JI S w1 fb W v u8 (metL [] (cols.take k)) (jnF cols k) (oldK cls cols k)→Calls Tryz.prog 139 #[.pointer (some ⟨S+1,0,none⟩),.string (ba cols[k])] W fun e w''=>e=.returned (.int .i64 ((ixL (metL [] cols) cols[k]:Nat):Int))∧∃ v2,NumAt 9 1 w'' (S+1) S v2 ((pushM (metL [] (cols.take k)) cols[k]).map sgV) 0∧(∀ g,v2.ownBlock=some g→v.ownBlock=some g∨W.heap.size≤g)∧Exc (Foot (S+1) S v) W w''):=hnum
   have hOL:=oldK_len cls cols k
   have HOO:=oldK_old (cls:=cls) hkl
   have HON:=oldK_new (cls:=cls) hkl (by omega)
   obtain⟨X,hX⟩:∃ X,X=cols[k]:=⟨_,rfl⟩
   obtain⟨m,hm⟩:∃ m,m=metL [] (cols.take k):=⟨_,rfl⟩
   obtain⟨D,hD⟩:∃ D,D=cls[k]:=⟨_,rfl⟩
   obtain⟨OK,hOK⟩:∃ OK,OK=oldK cls cols k:=⟨_,rfl⟩
   rw[←hX] at hco HSUC HIX HFF HOF hC HOO HON
   rw[←hm] at HSUC HIX HOF HJ1 hml hOL HOO HON
   rw[←hD] at hco HON hold
   have hbz:∀ h:k<cb.size,((cb[k]'h).toNat:Nat)=D:=fun h=>(HCB.out k h).trans hD.symm
   rw[←hOK] at HOF HJ1 hOL HOO HON hvo
   obtain⟨C,hCe⟩:∃ C,C=ixL (metL [] cols) X:=⟨_,rfl⟩
   rw[←hCe] at HIX HFF HOF hC
   have hCI:(C:Int)<256:=by omega
   have hDI:(D:Int)<256:=by omega
   clear hji hLm hnum hX hm hCe hbx hD hOK
   by_cases hmem:X∈m
   ·have HPM:Hid (pushM m X=m):=by show _=_;rw[pushM,if_pos hmem]
    have HO1:Hid (oldK cls cols (k+1)=OK):=HOO hmem
    have hne:¬ C=m.length:=fun q=>by rw[HIX.out] at q;exact idx_new.1 q hmem
    rw[hOL] at hvo
    have HVO:Hid (u8=.slice oa m.length oc):=hvo
    subst hvo
    have hneb:(((C:Int)==(m.length:Int)):Bool)=false:=by simp;omega
    clear hmem HOO HON hOL
    go_wp2_with (first|(go_at_call 139;refine(HOF.out w5 HJ5.out).mono ?_;rintro e w6 ⟨rfl,v2,hn6,hg6,hx6⟩;have hj6:=HJ5.out.of hn6 hg6 hx6;have HJ6:Hid (JI S w1 fb w6 v2 (.slice oa m.length oc) (pushM m X) (jnF cols k) OK):=hj6;have ac6:=hj6.li.fi.c k hlt;have af6:=hj6.li.fi.fz;clear hn6 hg6 hx6 hj6)|(go_at_call 142;refine hco.mono ?_;rintro e w5 ⟨rfl,hb5⟩;have HJ5:Hid (JI S w1 fb w5 v (.slice oa m.length oc) m (jnF cols k) OK):=HJ1.out.below HS.out hb5;clear hb5))
    go_roundw
    case rel=>
     refine⟨k+1,v2,by omega,by go_num,?_⟩
     have h7:=HJ6.out.set k hlt (.int .u8 (C:Int))
     rw[HSUC.out,HO1.out]
     exact⟨⟨h7.li.num,h7.li.nv,h7.li.fb2,h7.li.fi.congr HFF.out,h7.li.bl,h7.li.lt⟩,h7.ow⟩
    case measure=>simp[intOf]<;>omega
   ·have HPM:Hid (pushM m X=m++[X]):=by show _=_;rw[pushM,if_neg hmem]
    have HO1:Hid (oldK cls cols (k+1)=OK++[D]):=HON hmem
    have hCm:C=m.length:=by rw[HIX.out];exact idx_new.2 hmem
    rw[hOL] at hvo
    subst hvo
    subst hCm
    clear hmem HOO HON
    have HO6:Hid (∀ W v2 m',JI S w1 fb W v2 (.slice oa m.length oc) m' (jnF cols k) OK→W.ownsRow (fb+1) 3 1 (.slice oa m.length oc) m.length (OK.map eN)):=fun W v2 m' h=>by rw[←hOL];have:=h.ow;rw[hOL] at this ⊢;exact this
    have HAP:Hid (∀ W v2,JI S w1 fb W v2 (.slice oa m.length oc) (pushM m X) (jnF cols k) OK→∀ {w4:World}{g kk:Nat},w4.ownsRow (fb+1) 3 1 (.slice (some ⟨g,0,none⟩) (m.length+1) kk) (m.length+1) (OK.map eN++[eN D])→(((Value.slice oa m.length oc).ownBlock=some g∧(W.alloc (.cells #[.int .i64 (D:Int)] 3)).grownBy w4 (some g))∨(g=(W.alloc (.cells #[.int .i64 (D:Int)] 3)).heap.size∧(W.alloc (.cells #[.int .i64 (D:Int)] 3)).grownBy w4 none))→JI S w1 fb w4 v2 (.slice (some ⟨g,0,none⟩) (m.length+1) kk) (pushM m X) (jnF cols k) (OK++[D])):=fun W v2 h {w4 g kk} ho hc=>by
     have:=h.app HS.out (wa:=W.alloc (.cells #[.int .i64 (D:Int)] 3)) (x:=D) (g:=g) (k:=kk) (w4:=w4) ((Below.refl _ _).alloc (Nat.le_refl _) _) (by rw[hOL];exact ho) rfl hc
     rw[hOL] at this
     exact this
    have HFBL:Hid (∀ W v2 m',JI S w1 fb W v2 (.slice oa m.length oc) m' (jnF cols k) OK→fb+1≤W.heap.size):=fun W v2 m' h=>h.li.lt
    clear hOL
    go_wp2_with (first|(at_builtin;refine wpList_append_str _ rfl (.tmp 31) (.tmp 33) 40 rfl (fb+1) 3 iI _ 1 8 Tryz.underlying40 hiI hzI hz1I hz2I rfl (by decide) (.slice oa m.length oc) m.length (OK.map eN) rfl (World.ownsRow.alloc (HO6.out w6 v2 _ HJ6.out) _) ⟨w6.heap.size,0,none⟩ 1 1 [.int .i64 (D:Int)] rfl rfl (World.news_of_block (heap_alloc_new w6 _)) (by simp[Value.oneCell']) (by omega) (by unfold maxLen;omega) (by omega) (by have:=HFBL.out w6 v2 _ HJ6.out;simp;omega) _ rfl ?_;intro g7 k7 w7 ho7 hc7 hl7;have hj7:=HAP.out w6 v2 HJ6.out ho7 hc7;have HJ7:Hid (JI S w1 fb w7 v2 (.slice (some ⟨g7,0,none⟩) (m.length+1) k7) (pushM m X) (jnF cols k) (OK++[D])):=hj7;have ac7:=hj7.li.fi.c k hlt;have af7:=hj7.li.fi.fz;clear ho7 hc7 hj7)|(go_at_call 139;refine(HOF.out w5 HJ5.out).mono ?_;rintro e w6 ⟨rfl,v2,hn6,hg6,hx6⟩;have hj6:=HJ5.out.of hn6 hg6 hx6;have HJ6:Hid (JI S w1 fb w6 v2 (.slice oa m.length oc) (pushM m X) (jnF cols k) OK):=hj6;have ac6:=hj6.li.fi.c k hlt;have af6:=hj6.li.fi.fz;clear hn6 hg6 hx6 hj6)|(go_at_call 142;refine hco.mono ?_;rintro e w5 ⟨rfl,hb5⟩;have HJ5:Hid (JI S w1 fb w5 v (.slice oa m.length oc) m (jnF cols k) OK):=HJ1.out.below HS.out hb5;clear hb5))
    go_roundw
    case rel=>
     refine⟨k+1,v2,by omega,by go_num,?_⟩
     have h8:=HJ7.out.set k hlt (.int .u8 (m.length:Int))
     rw[HSUC.out,HO1.out]
     exact⟨⟨h8.li.num,h8.li.nv,h8.li.fb2,h8.li.fi.congr HFF.out,h8.li.bl,h8.li.lt⟩,h8.ow⟩
    case measure=>simp[intOf]<;>omega
  ·have hkI:¬(k:Int)<256:=by omega
   have hke:k=256:=by omega
   subst hke
   have hll:((cols.map (ixL (metL [] cols))).map UInt8.ofNat).length=256:=by simp[hcolL]
   have hnw:Nw wr fb 256 (fun j=>.int .u8 ((((cols.map (ixL (metL [] cols))).map UInt8.ofNat)[j]?.getD 0).toNat:Int)):=hji.li.fi.congr (fun j hj=>by
    have hjr:j<cols.length:=by omega
    have hidx:ixL (metL [] cols) cols[j]<256:=Nat.lt_of_lt_of_le (ixL_lt (mem_metL.2 (.inr (List.getElem_mem hjr)))) HML.out
    unfold jnF
    rw[if_pos hj,List.getElem?_map,List.getElem?_map,List.getElem?_eq_getElem hjr]
    simp only[Option.getD_some,Option.map_some]
    rw[UInt8.toNat_ofNat',Nat.mod_eq_of_lt hidx])
   have hcv:=nw_conv hnw hll
   have HOL:Hid (∃ base,w.heap.size≤base∧wr.ownsRow base 3 1 u8 (oldsM cls cols).length ((oldsM cls cols).map eN)):=by
    have h1:=hji.ow
    have h2:oldK cls cols 256=oldsM cls cols:=by unfold oldK oldsM;rw[List.take_of_length_le (by omega)]
    rw[h2] at h1
    exact⟨fb+1,by have:=hji.li.fb2;have:=HSZ.out;omega,h1⟩
   obtain⟨LL,hLL⟩:∃ LL,LL=(cols.map (ixL (metL [] cols))).map UInt8.ofNat:=⟨_,rfl⟩
   have HLL:Hid (LL=(cols.map (ixL (metL [] cols))).map UInt8.ofNat):=hLL
   rw[←hLL] at hcv
   clear hnw hll hLL hji hvo
   go_wp2
   refine bodyPost_ret (v:=.tuple #[.string (ba LL),u8]) (by simp[results,Tryz.results80,go_sem]) rfl ⟨u8,by rw[HLL.out];simp,HOL.out,HBEL.out wr HJ1.out.li.bl⟩
theorem lib_ix (bl:List UInt8) (c:UInt8) (h:c∈bl):Lib.indexByte bl c=(bl.idxOf c:Nat):=by
 induction bl with
 |nil=>simp at h
 |cons x t ih=>
  by_cases hx:x=c
  ·subst hx;simp[Lib.indexByte]
  ·have ht:c∈t:=by simpa [Ne.symm hx] using h
   have he:=ih ht
   simp only[Lib.indexByte,he]
   have:(x==c)=false:=by simpa using hx
   rw[this,List.idxOf_cons,this]
   simp
theorem run_idxS (w:World) (g o n cp:Nat) (xs:List Int) (c:Int) (hx:xs.length=n) (hc:∀ i,i<n→w.cell? ⟨g,o+i,none⟩=some (.int .u8 (xs.getD i 0))):(callFunc 145 #[.slice (some ⟨g,o,none⟩) n cp,.int .u8 c]).run Tryz.prog w=.ok (.value (.int .i64 (Lib.indexByte (Lib.bytesOf xs) c.toNat.toUInt8))) w:=by
 rw[run_callFunc_extern Tryz.func145 (by kernel_rfl) (by kernel_rfl) (by kernel_rfl) (e:=Extern.BytealgIndexByte.indexByte) (by kernel_rfl),Lib.run_indexByteSlice w g o n cp xs hx hc c]
 rfl
theorem indexBy_any (w:World) (vb:Value) (bl:List UInt8) (c:UInt8) (h:RowE byV w vb bl) (hc:c∈bl) :
  Calls Tryz.prog 84 #[vb,.int .u8 c.toNat] w fun e w'=>e=.returned (.int .i64 (bl.idxOf c:Nat))∧w'=w:=by
 obtain⟨g,o,cp,rfl,hcell⟩:=h.nonnil (List.length_pos_of_mem hc)
 have hb:Lib.bytesOf (bl.map fun x=>(x.toNat:Int))=bl:=by
  unfold Lib.bytesOf
  rw[List.map_map]
  conv=>rhs;rw[←List.map_id bl]
  apply List.map_congr_left
  intro x _
  simp
 have hr:=run_idxS w g o bl.length cp (bl.map fun x=>(x.toNat:Int)) c.toNat (by simp) (fun i hi=>by
  rw[hcell i hi]
  simp[byV,List.getD_eq_getElem?_getD,hi])
 rw[hb,show((c.toNat:Int).toNat.toUInt8)=c by simp,lib_ix bl c hc] at hr
 go_enter Tryz.func84,Tryz.ntmps84
 go_wp2
 go_ret
 exact⟨rfl,rfl⟩
structure LS (w:World) (tb K:Nat) (W:World) (v va vn:Value) (met:List UInt8) (tk:Nat) (acc:List Bool) (rows:List (List Nat)) (gs:List Nat):Prop where
 num:NumAt 5 1 W (w.heap.size+1) w.heap.size v (met.map byV) tk
 nv:∀ g,v.ownBlock=some g→w.heap.size+2≤g
 c4:W.cell? ⟨tb,4,none⟩=some va
 ar:W.ownsRow (w.heap.size+2) 4 1 va acc.length (acc.map eB)
 c5:W.cell? ⟨tb,5,none⟩=some vn
 nr:W.ownsRow (w.heap.size+2) 40 1 vn gs.length (gs.map (rowV K))
 gl:gs.length=rows.length
 rw:∀ j (h1:j<gs.length) (h2:j<rows.length),W.heap[gs[j]]?=some (.cells (rows[j].map eN).toArray 3 (0,0))∧w.heap.size+2≤gs[j]∧rows[j].length=K
 cs:∀ o,o≠4→o≠5→W.cell? ⟨tb,o,none⟩=w.cell? ⟨tb,o,none⟩
 fz:∀ o,W.frozen? ⟨tb,o,none⟩=false
 ex:Exc (fun b=>b=tb) w W
 tl:tb<w.heap.size
section
variable {w:World}{tb K:Nat}{W W':World}{v va vn:Value}{met:List UInt8}{tk:Nat}{acc:List Bool}{rows:List (List Nat)}{gs:List Nat}
theorem LS.keep (h:LS w tb K W v va vn met tk acc rows gs) {S:Nat→Prop} (hx:Exc S W W') (h1:¬ S tb) (h2:∀ b,b<w.heap.size→¬ S b) (h3:∀ b,SFoot w v va vn gs b→¬ S b):LS w tb K W' v va vn met tk acc rows gs:=by
 have hsz:=h.ex.size
 have htl:=h.tl
 have et:=hx.block tb (by omega) h1
 refine⟨h.num.exc hx (fun b hb=>h3 b ?_),h.nv,?_,own_blk h.ar (fun b hb=>hx.block b (own_lt h.ar hb) (h3 b (.inr (.inr (.inr (.inl hb)))))),?_,own_blk h.nr (fun b hb=>hx.block b (own_lt h.nr hb) (h3 b (.inr (.inr (.inr (.inr (.inl hb))))))),h.gl,fun j j1 j2=>?_,fun o o1 o2=>?_,fun o=>?_,?_,htl⟩
 ·rcases hb with rfl|rfl|hb
  ·exact .inl rfl
  ·exact .inr (.inl rfl)
  ·exact .inr (.inr (.inl hb.symm))
 ·rw[←h.c4];simp[World.cell?,et]
 ·rw[←h.c5];simp[World.cell?,et]
 ·have:=h.rw j j1 j2
  exact⟨(hx.block _ (Array.getElem?_eq_some_iff.1 this.1).1 (h3 _ (.inr (.inr (.inr (.inr (.inr (List.getElem_mem _)))))))).trans this.1,this.2⟩
 ·rw[←h.cs o o1 o2];simp[World.cell?,et]
 ·rw[←h.fz o];simp[World.frozen?,et]
 ·exact⟨hx.os.trans h.ex.os,hx.tape.trans h.ex.tape,hx.output.trans h.ex.output,Nat.le_trans hsz hx.size,fun b hb hn=>(hx.block b (by omega) (h2 b hb)).trans (h.ex.block b hb hn)⟩
theorem LS.below (h:LS w tb K W v va vn met tk acc rows gs) (hb:Below W.heap.size W W'):LS w tb K W' v va vn met tk acc rows gs:=
 h.keep (S:=fun _=>False) (Exc.of_below _ hb) id (fun _ _=>id) (fun _ _=>id)
theorem LS.footn (h:LS w tb K W v va vn met tk acc rows gs) {b:Nat} (hb:Foot (w.heap.size+1) w.heap.size v b):va.ownBlock≠some b∧vn.ownBlock≠some b∧b ∉ gs:=by
 have h0:∀ g,w.heap.size+2≤g→(b=w.heap.size+1∨b=w.heap.size)→g≠b:=fun g h1 h2=>by omega
 rcases hb with hb|hb|hb
 ·refine⟨fun q=>h0 b (own_ge h.ar q) (.inl hb) rfl,fun q=>h0 b (own_ge h.nr q) (.inl hb) rfl,fun q=>?_⟩
  obtain⟨j,hj,rfl⟩:=List.getElem_of_mem q
  exact h0 _ (h.rw j hj (by rw[←h.gl];exact hj)).2.1 (.inl hb) rfl
 ·refine⟨fun q=>h0 b (own_ge h.ar q) (.inr hb) rfl,fun q=>h0 b (own_ge h.nr q) (.inr hb) rfl,fun q=>?_⟩
  obtain⟨j,hj,rfl⟩:=List.getElem_of_mem q
  exact h0 _ (h.rw j hj (by rw[←h.gl];exact hj)).2.1 (.inr hb) rfl
 ·obtain⟨cs,hcs⟩:=own_ty h.num.own hb.symm
  refine⟨fun q=>?_,fun q=>?_,fun q=>?_⟩
  ·obtain⟨ds,hds⟩:=own_ty h.ar q
   exact ty_ne hcs hds (by decide) rfl
  ·obtain⟨ds,hds⟩:=own_ty h.nr q
   exact ty_ne hcs hds (by decide) rfl
  ·obtain⟨j,hj,rfl⟩:=List.getElem_of_mem q
   exact ty_ne hcs (h.rw j hj (by rw[←h.gl];exact hj)).1 (by decide) rfl
theorem LS.of (h:LS w tb K W v va vn met tk acc rows gs) {v':Value}{met':List UInt8}{tk':Nat} (hn:NumAt 5 1 W' (w.heap.size+1) w.heap.size v' (met'.map byV) tk') (hg:∀ g,v'.ownBlock=some g→v.ownBlock=some g∨W.heap.size≤g) (hx:Exc (Foot (w.heap.size+1) w.heap.size v) W W'):LS w tb K W' v' va vn met' tk' acc rows gs:=by
 have hsz:=h.ex.size
 have htl:=h.tl
 have hlt:=h.num.lt (.inl rfl)
 have hft:∀ {b},Foot (w.heap.size+1) w.heap.size v b→w.heap.size≤b:=fun {b} hb=>by
  rcases hb with hb|hb|hb
  ·omega
  ·omega
  ·have:=h.nv b hb.symm;omega
 have et:=hx.block tb (by omega) (fun q=>by have:=hft q;omega)
 refine⟨hn,fun g hg'=>?_,?_,own_blk h.ar (fun b hb=>hx.block b (own_lt h.ar hb) (fun q=>(h.footn q).1 hb)),?_,own_blk h.nr (fun b hb=>hx.block b (own_lt h.nr hb) (fun q=>(h.footn q).2.1 hb)),h.gl,fun j j1 j2=>?_,fun o o1 o2=>?_,fun o=>?_,?_,htl⟩
 ·rcases hg g hg' with q|q
  ·exact h.nv g q
  ·omega
 ·rw[←h.c4];simp[World.cell?,et]
 ·rw[←h.c5];simp[World.cell?,et]
 ·have:=h.rw j j1 j2
  exact⟨(hx.block _ (Array.getElem?_eq_some_iff.1 this.1).1 (fun q=>(h.footn q).2.2 (List.getElem_mem _))).trans this.1,this.2⟩
 ·rw[←h.cs o o1 o2];simp[World.cell?,et]
 ·rw[←h.fz o];simp[World.frozen?,et]
 ·exact⟨hx.os.trans h.ex.os,hx.tape.trans h.ex.tape,hx.output.trans h.ex.output,Nat.le_trans hsz hx.size,fun b hb hn=>(hx.block b (by omega) (fun q=>by have:=hft q;omega)).trans (h.ex.block b hb hn)⟩
theorem LS.acc1 (h:LS w tb K W v va vn met tk acc rows gs) {wa w4:World}{x:Bool}{g k H:Nat} (hwa:Below W.heap.size W wa) (ho:w4.ownsRow (w.heap.size+2) 4 1 (.slice (some ⟨g,0,none⟩) (acc.length+1) k) (acc.length+1) (acc.map eB++[eB x])) (hH:wa.heap.size=H)
  (hc:(va.ownBlock=some g∧wa.grownBy w4 (some g))∨(g=H∧wa.grownBy w4 none)) :
  LS w tb K (w4.setCell ⟨tb,4,none⟩ (.slice (some ⟨g,0,none⟩) (acc.length+1) k)) v (.slice (some ⟨g,0,none⟩) (acc.length+1) k) vn met tk (acc++[x]) rows gs∧w4.cell? ⟨tb,4,none⟩=some va∧w4.frozen? ⟨tb,4,none⟩=false:=by
 have hsz:=h.ex.size
 have htl:=h.tl
 have hsza:=hwa.size
 have blk:∀ b,b<W.heap.size→va.ownBlock≠some b→w4.heap[b]?=W.heap[b]?:=fun b hb hne=>(grown_blk hH hc (by omega) hne).trans (hwa.block b hb)
 obtain⟨g1,g2,g3,g4⟩:=grown_env hc
 have hvt:va.ownBlock≠some tb:=fun q=>by have:=own_ge h.ar q;omega
 have et:w4.heap[tb]?=W.heap[tb]?:=blk tb (by omega) hvt
 have k4:w4.cell? ⟨tb,4,none⟩=some va:=by rw[←h.c4];simp[World.cell?,et]
 have k5:w4.cell? ⟨tb,5,none⟩=some vn:=by rw[←h.c5];simp[World.cell?,et]
 have kf:∀ o,w4.frozen? ⟨tb,o,none⟩=false:=fun o=>by rw[←h.fz o];simp[World.frozen?,et]
 have hga:=own_ge ho (g:=g) rfl
 have nb:∀ b,vn.ownBlock=some b→va.ownBlock≠some b:=fun b hb q=>by
  obtain⟨cs,hcs⟩:=own_ty h.nr hb
  obtain⟨ds,hds⟩:=own_ty h.ar q
  exact ty_ne hcs hds (by decide) rfl
 have gb:∀ b,b∈gs→va.ownBlock≠some b:=fun b hb q=>by
  obtain⟨ds,hds⟩:=own_ty h.ar q
  obtain⟨j,hj,rfl⟩:=List.getElem_of_mem hb
  exact ty_ne hds (h.rw j hj (by rw[←h.gl];exact hj)).1 (by decide) rfl
 refine⟨⟨?_,h.nv,?_,?_,?_,?_,h.gl,fun j j1 j2=>?_,fun o o1 o2=>?_,fun o=>?_,?_,htl⟩,k4,kf 4⟩
 ·refine h.num.keep (fun b hb=>?_)
  have hge:w.heap.size≤b:=by
   rcases hb with hb|hb|hb
   ·omega
   ·omega
   ·have:=h.nv b hb.symm;omega
  rw[set_blk _ _ _ _ (by omega)]
  exact blk b (h.num.lt hb) (fun q=>(h.footn hb).1 q)
 ·exact World.cell?_setCell_same' _ _ _ (by rw[k4];rfl)
 ·have:w4.ownsRow (w.heap.size+2) 4 1 (.slice (some ⟨g,0,none⟩) (acc.length+1) k) (acc++[x]).length ((acc++[x]).map eB):=by simpa using ho
  exact own_blk this (fun b hb=>set_blk _ _ _ _ (by simp[Value.ownBlock] at hb;omega))
 ·simp[go_sem,k5]
 ·exact own_blk h.nr (fun b hb=>(set_blk _ _ _ _ (by have:=own_ge h.nr hb;omega)).trans (blk b (own_lt h.nr hb) (nb b hb)))
 ·have:=h.rw j j1 j2
  refine⟨?_,this.2⟩
  rw[set_blk _ _ _ _ (by omega)]
  exact(blk _ (Array.getElem?_eq_some_iff.1 this.1).1 (gb _ (List.getElem_mem _))).trans this.1
 ·have:(w4.setCell ⟨tb,4,none⟩ (.slice (some ⟨g,0,none⟩) (acc.length+1) k)).cell? ⟨tb,o,none⟩=w4.cell? ⟨tb,o,none⟩:=by simp[go_sem,Ne.symm o1,o1]
  rw[this,←h.cs o o1 o2];simp[World.cell?,et]
 ·simp[go_sem,kf]
 ·refine⟨g1.trans (hwa.os.trans h.ex.os),g2.trans (hwa.tape.trans h.ex.tape),g3.trans (hwa.output.trans h.ex.output),by rw[size_set'];omega,fun b hb hne=>?_⟩
  rw[set_blk _ _ _ _ hne]
  exact(blk b (by omega) (fun q=>by have:=own_ge h.ar q;omega)).trans (h.ex.block b hb hne)
theorem LS.row1 (h:LS w tb K W v va vn met tk acc rows gs) {wa w4:World}{r:List Nat}{q g k H:Nat} (hr:W.heap[q]?=some (.cells (r.map eN).toArray 3 (0,0))) (hq:w.heap.size+2≤q) (hrl:r.length=K) (hwa:Below W.heap.size W wa) (ho:w4.ownsRow (w.heap.size+2) 40 1 (.slice (some ⟨g,0,none⟩) (gs.length+1) k) (gs.length+1) (gs.map (rowV K)++[rowV K q])) (hH:wa.heap.size=H)
  (hc:(vn.ownBlock=some g∧wa.grownBy w4 (some g))∨(g=H∧wa.grownBy w4 none)) :
  LS w tb K (w4.setCell ⟨tb,5,none⟩ (.slice (some ⟨g,0,none⟩) (gs.length+1) k)) v va (.slice (some ⟨g,0,none⟩) (gs.length+1) k) met tk acc (rows++[r]) (gs++[q])∧w4.cell? ⟨tb,5,none⟩=some vn∧w4.frozen? ⟨tb,5,none⟩=false:=by
 have hsz:=h.ex.size
 have htl:=h.tl
 have hsza:=hwa.size
 have blk:∀ b,b<W.heap.size→vn.ownBlock≠some b→w4.heap[b]?=W.heap[b]?:=fun b hb hne=>(grown_blk hH hc (by omega) hne).trans (hwa.block b hb)
 obtain⟨g1,g2,g3,g4⟩:=grown_env hc
 have hvt:vn.ownBlock≠some tb:=fun q=>by have:=own_ge h.nr q;omega
 have et:w4.heap[tb]?=W.heap[tb]?:=blk tb (by omega) hvt
 have k4:w4.cell? ⟨tb,4,none⟩=some va:=by rw[←h.c4];simp[World.cell?,et]
 have k5:w4.cell? ⟨tb,5,none⟩=some vn:=by rw[←h.c5];simp[World.cell?,et]
 have kf:∀ o,w4.frozen? ⟨tb,o,none⟩=false:=fun o=>by rw[←h.fz o];simp[World.frozen?,et]
 have hga:=own_ge ho (g:=g) rfl
 have nb:∀ b,va.ownBlock=some b→vn.ownBlock≠some b:=fun b hb q=>by
  obtain⟨cs,hcs⟩:=own_ty h.ar hb
  obtain⟨ds,hds⟩:=own_ty h.nr q
  exact ty_ne hcs hds (by decide) rfl
 have tb':∀ b cs,W.heap[b]?=some (.cells cs 3 (0,0))→vn.ownBlock≠some b:=fun b cs hb q=>by
  obtain⟨ds,hds⟩:=own_ty h.nr q
  exact ty_ne hds hb (by decide) rfl
 refine⟨⟨?_,h.nv,?_,?_,?_,?_,by simp[h.gl],fun j j1 j2=>?_,fun o o1 o2=>?_,fun o=>?_,?_,htl⟩,k5,kf 5⟩
 ·refine h.num.keep (fun b hb=>?_)
  have hge:w.heap.size≤b:=by
   rcases hb with hb|hb|hb
   ·omega
   ·omega
   ·have:=h.nv b hb.symm;omega
  rw[set_blk _ _ _ _ (by omega)]
  exact blk b (h.num.lt hb) (fun q=>(h.footn hb).2.1 q)
 ·simp[go_sem,k4]
 ·exact own_blk h.ar (fun b hb=>(set_blk _ _ _ _ (by have:=own_ge h.ar hb;omega)).trans (blk b (own_lt h.ar hb) (nb b hb)))
 ·exact World.cell?_setCell_same' _ _ _ (by rw[k5];rfl)
 ·have:w4.ownsRow (w.heap.size+2) 40 1 (.slice (some ⟨g,0,none⟩) (gs.length+1) k) (gs++[q]).length ((gs++[q]).map (rowV K)):=by simpa using ho
  exact own_blk this (fun b hb=>set_blk _ _ _ _ (by simp[Value.ownBlock] at hb;omega))
 ·have e:∀ b cs,W.heap[b]?=some (.cells cs 3 (0,0))→w.heap.size+2≤b→(w4.setCell ⟨tb,5,none⟩ (.slice (some ⟨g,0,none⟩) (gs.length+1) k)).heap[b]?=some (.cells cs 3 (0,0)):=fun b cs hb hge=>by
   rw[set_blk _ _ _ _ (by omega)]
   exact(blk b (Array.getElem?_eq_some_iff.1 hb).1 (tb' b cs hb)).trans hb
  rcases Nat.lt_or_ge j gs.length with hj|hj
  ·have hj2:j<rows.length:=by rw[←h.gl];exact hj
   have:=h.rw j hj hj2
   rw[List.getElem_append_left hj,List.getElem_append_left hj2]
   exact⟨e _ _ this.1 this.2.1,this.2⟩
  ·have hje:j=gs.length:=by simp at j1;omega
   subst hje
   simp only[List.getElem_append_right (Nat.le_refl _),Nat.sub_self,List.getElem_cons_zero]
   have hx:(rows++[r])[gs.length]'j2=r:=by
    rw[List.getElem_append_right (by rw[h.gl];exact Nat.le_refl _)]
    simp[h.gl]
   rw[hx]
   exact⟨e _ _ hr hq,hq,hrl⟩
 ·have:(w4.setCell ⟨tb,5,none⟩ (.slice (some ⟨g,0,none⟩) (gs.length+1) k)).cell? ⟨tb,o,none⟩=w4.cell? ⟨tb,o,none⟩:=by simp[go_sem,Ne.symm o2,o2]
  rw[this,←h.cs o o1 o2];simp[World.cell?,et]
 ·simp[go_sem,kf]
 ·refine⟨g1.trans (hwa.os.trans h.ex.os),g2.trans (hwa.tape.trans h.ex.tape),g3.trans (hwa.output.trans h.ex.output),by rw[size_set'];omega,fun b hb hne=>?_⟩
  rw[set_blk _ _ _ _ hne]
  exact(blk b (by omega) (fun q=>by have:=own_ge h.nr q;omega)).trans (h.ex.block b hb hne)
end
open Go.RowKit
def tC (f b:Bool) (cls:List UInt8) (va vn:Value):Array Value:=#[.bool f,.bool b,.int .i64 0,.string (ba cls),va,vn]
structure LPre (w:World) (t:Tn) (va vn:Value) (w2 w0:World) (vb vo:Value) (bl:List UInt8) (olds:List Nat) (cls:List UInt8):Prop where
 bw:Below w.heap.size w w2
 bt:Below w2.heap.size w2 w0
 s2:w.heap.size+2≤w2.heap.size
 box:w2.heap[w.heap.size]?=some (.cells (tC t.front t.back (t.cls.map UInt8.ofNat) va vn) 33)
 res:w2.heap[w.heap.size+1]?=some (.cells #[.bool false,.bool false,.int .i64 0,.string ⟨#[]⟩,.slice none 0 0,.slice none 0 0] 33)
 row:RowE byV w2 vb bl
 acc:RowE eB w2 va t.acc
 nx:RowsE eI w2 vn (nxI t.next)
 tb:w0.heap[w2.heap.size]?=some (.cells (tC t.front t.back cls (.slice none 0 0) (.slice none 0 0)) 33)
 ol:∃ base,w2.heap.size<base∧w0.ownsRow base 3 1 vo olds.length (olds.map eN)
section
variable {w:World}{t:Tn}{va vn:Value}{w2 w0:World}{vb vo:Value}{bl:List UInt8}{olds:List Nat}{cls:List UInt8}
theorem LPre.lt (h:LPre w t va vn w2 w0 vb vo bl olds cls):w2.heap.size<w0.heap.size:=(Array.getElem?_eq_some_iff.1 h.tb).1
theorem LPre.low (h:LPre w t va vn w2 w0 vb vo bl olds cls) {W:World} (hx:Exc (fun b=>b=w2.heap.size) w0 W):Below w2.heap.size w2 W:=by
 have h1:=h.lt
 exact⟨hx.os.trans h.bt.os,hx.tape.trans h.bt.tape,hx.output.trans h.bt.output,Nat.le_trans h.bt.size hx.size,fun b hb=>(hx.block b (by omega) (by omega)).trans (h.bt.block b hb)⟩
theorem LPre.keep (h:LPre w t va vn w2 w0 vb vo bl olds cls) {W:World} (hx:Exc (fun b=>b=w2.heap.size) w0 W) :
  W.heap[w.heap.size]?=some (.cells (tC t.front t.back (t.cls.map UInt8.ofNat) va vn) 33)∧RowE byV W vb bl∧RowE eB W va t.acc∧RowsE eI W vn (nxI t.next)∧RowE eN W vo olds:=by
 have hb:=h.low hx
 have h2:=h.s2
 obtain⟨base,hbase,ho⟩:=h.ol
 exact⟨(hb.block _ (by omega)).trans h.box,h.row.below hb,h.acc.below hb,h.nx.below hb,own_rowE (own_blk ho (fun b hb=>hx.block b (own_lt ho hb) (by have:=own_ge ho hb;omega)))⟩
theorem LPre.first (h:LPre w t va vn w2 w0 vb vo bl olds cls) {W:World} (K:Nat) (hn:NumAt 5 1 W (w0.heap.size+1) w0.heap.size (.slice none 0 0) [] 0) (hb:Below w0.heap.size w0 W):LS w0 w2.heap.size K W (.slice none 0 0) (.slice none 0 0) (.slice none 0 0) [] 0 [] [] []:=by
 have h1:=h.lt
 have et:=hb.block _ h1
 refine⟨hn,fun g hg=>by simp[Value.ownBlock] at hg,?_,World.ownsRow_nil _ _ _ _,?_,World.ownsRow_nil _ _ _ _,rfl,fun j h1=>by simp at h1,fun o _ _=>by simp[World.cell?,et],fun o=>?_,Exc.of_below _ hb,h1⟩
 ·simp[World.cell?,et,h.tb,tC]
 ·simp[World.cell?,et,h.tb,tC]
 ·simp[World.frozen?,et,h.tb]
end
theorem LS.tab {w0:World}{tb K:Nat}{W:World}{v va vn:Value}{met:List UInt8}{tk:Nat}{acc:List Bool}{rows:List (List Nat)}{gs:List Nat} (h:LS w0 tb K W v va vn met tk acc rows gs) {W':World} (hk:∀ b,w0.heap.size≤b→W'.heap[b]?=W.heap[b]?):RowE eB W' va acc∧RowsE eI W' vn (nxI rows):=by
 refine⟨own_rowE (own_blk h.ar (fun b hb=>hk b (by have:=own_ge h.ar hb;omega))),gs.map (rowV K),by rw[List.length_map,nxI_len,h.gl],own_rowE (base:=w0.heap.size+2) (e:=40) ?_,fun j h1 h2=>?_⟩
 ·have:=own_blk (w':=W') h.nr (fun b hb=>hk b (by have:=own_ge h.nr hb;omega))
  simpa using this
 ·have h1':j<gs.length:=by simpa using h1
  have h2':j<rows.length:=by simpa [nxI] using h2
  obtain⟨q1,q2,q3⟩:=h.rw j h1' h2'
  rw[nxI_at rows j h2',List.getElem_map]
  refine rowE_map (.inr ⟨gs[j],0,K,by rw[q3];rfl,fun i hi=>?_⟩)
  have e:=(hk gs[j] (by omega)).trans q1
  simp[World.cell?,e,hi]
def ptrOf (a:Act) (k:Nat):Nat:=match a.tmps.getD k undef with|.pointer (some p)=>p.block|_=>0
end Go.Proofs.YtbjabpodkaokjaaGreatDoor

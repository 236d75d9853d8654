import Derived.Test.YtbjabpodkaokjaaGreatDoorDRi01
import Derived.Test.YtbjabpodkaokjaaGreatDoorJ29
import Derived.KernelRfl
import Derived.Test.YtbjabpodkaokjaaGreatDoorJ11
import Derived.BigRegion
import Derived.Test.YtbjabpodkaokjaaGreatDoorKRi01
import Derived.Test.YtbjabpodkaokjaaGreatDoorJ33
set_option linter.unusedVariables false
set_option linter.unusedSimpArgs false
set_option maxHeartbeats 4000000
set_option maxRecDepth 100000
namespace Go.Proofs.YtbjabpodkaokjaaGreatDoor
open Go.RowKit
theorem Tryz.infoQB:(Tryz.prog.info? 4).map (fun i=>(i.zero,i.size,i.bytes))=some (some (.bool false),1,1):=by kernel_rfl
theorem Tryz.infoQL:(Tryz.prog.info? 30).map (fun i=>(i.zero,i.size,i.bytes))=some (some (.slice none 0 0),1,24):=by kernel_rfl
structure TO (B:Nat) (w1 W:World) (n:Nat) (D:Nat→Nat→Bool) (vo:Value) (gs:List Nat):Prop where
 bl:Below B w1 W
 hB:B≤w1.heap.size
 ow:W.ownsRow B 30 1 vo gs.length (gs.map (rowV n))
 nw:∀ j (h:j<gs.length),Nw W gs[j] n (fun k=>.bool (D j k))
 lo:∀ j (h:j<gs.length),B≤gs[j]∧gs[j]<W.heap.size
 nd:gs.Nodup
 no:∀ g,vo.ownBlock=some g→g ∉ gs
theorem TO.below {B:Nat}{w1 W W':World}{n:Nat}{D:Nat→Nat→Bool}{vo:Value}{gs:List Nat} (h:TO B w1 W n D vo gs) (hb:Below W.heap.size W W'):TO B w1 W' n D vo gs:=
 ⟨h.bl.trans (hb.mono (Nat.le_trans h.hB h.bl.size)),h.hB,own_blk h.ow (fun b q=>hb.block b (own_lt h.ow q)),fun j hj=>(h.nw j hj).of_block (hb.block _ (h.lo j hj).2),fun j hj=>⟨(h.lo j hj).1,Nat.lt_of_lt_of_le (h.lo j hj).2 hb.size⟩,h.nd,h.no⟩
theorem TO.set {B:Nat}{w1 W:World}{n:Nat}{D:Nat→Nat→Bool}{vo:Value}{gs:List Nat} (h:TO B w1 W n D vo gs) {q:Nat} (hq:B≤q) (h1:q ∉ gs) (h2:vo.ownBlock≠some q) (o:Nat) (v:Value):TO B w1 (W.setCell ⟨q,o,none⟩ v) n D vo gs:=
 ⟨h.bl.setCell hq _,h.hB,own_blk h.ow (fun b e=>set_blk _ _ _ _ (fun e2=>h2 (e2▸e))),fun j hj=>(h.nw j hj).of_block (set_blk _ _ _ _ (fun e2=>h1 (e2▸List.getElem_mem hj))),fun j hj=>⟨(h.lo j hj).1,by rw[size_set'];exact(h.lo j hj).2⟩,h.nd,h.no⟩
theorem TO.app {B:Nat}{w1 W:World}{n:Nat}{D:Nat→Nat→Bool}{vo:Value}{gs:List Nat} (h:TO B w1 W n D vo gs) {wa w4:World}{q g cap H:Nat} (hq:Nw W q n (fun k=>.bool (D gs.length k))) (hl:B≤q∧q<W.heap.size) (h1:q ∉ gs) (h2:vo.ownBlock≠some q) (hwa:Below W.heap.size W wa) (ho:w4.ownsRow B 30 1 (.slice (some ⟨g,0,none⟩) (gs.length+1) cap) (gs.length+1) (gs.map (rowV n)++[rowV n q])) (hH:wa.heap.size=H)
  (hc:(vo.ownBlock=some g∧wa.grownBy w4 (some g))∨(g=H∧wa.grownBy w4 none)):TO B w1 w4 n D (.slice (some ⟨g,0,none⟩) (gs.length+1) cap) (gs++[q]):=by
 have hsza:=hwa.size
 have hz:=h.bl.size
 have hB:=h.hB
 have blk:∀ b,b<W.heap.size→vo.ownBlock≠some b→w4.heap[b]?=W.heap[b]?:=fun b hb hne=>(grown_blk hH hc (by omega) hne).trans (hwa.block b hb)
 obtain⟨g1,g2,g3,g4⟩:=grown_env hc
 have hgs:∀ b,b∈gs→vo.ownBlock≠some b:=fun b hb e=>h.no b e hb
 refine⟨⟨g1.trans (hwa.os.trans h.bl.os),g2.trans (hwa.tape.trans h.bl.tape),g3.trans (hwa.output.trans h.bl.output),by omega,fun b hb=>?_⟩,hB,by simpa using ho,fun j hj=>?_,fun j hj=>?_,?_,fun b hb hm=>?_⟩
 ·exact(blk b (by omega) (fun e=>by have:=own_ge h.ow e;omega)).trans (h.bl.block b hb)
 ·rcases Nat.lt_or_ge j gs.length with hj'|hj'
  ·rw[List.getElem_append_left hj']
   exact(h.nw j hj').of_block (blk _ (h.lo j hj').2 (hgs _ (List.getElem_mem hj')))
  ·have hje:j=gs.length:=by simp at hj;omega
   subst hje
   simp only[List.getElem_append_right (Nat.le_refl _),Nat.sub_self,List.getElem_cons_zero]
   exact hq.of_block (blk q hl.2 h2)
 ·rcases Nat.lt_or_ge j gs.length with hj'|hj'
  ·rw[List.getElem_append_left hj']
   exact⟨(h.lo j hj').1,by have:=(h.lo j hj').2;omega⟩
  ·have hje:j=gs.length:=by simp at hj;omega
   subst hje
   simp only[List.getElem_append_right (Nat.le_refl _),Nat.sub_self,List.getElem_cons_zero]
   exact⟨hl.1,by omega⟩
 ·rw[List.nodup_append]
  exact⟨h.nd,by simp,fun a ha b hb e=>by simp at hb;subst hb;subst e;exact h1 ha⟩
 ·simp[Value.ownBlock] at hb
  subst hb
  rcases hc with⟨e,-⟩|⟨e,-⟩
  ·rcases List.mem_append.1 hm with q1|q1
   ·exact h.no g e q1
   ·simp at q1;subst q1;exact h2 e
  ·rcases List.mem_append.1 hm with q1|q1
   ·obtain⟨j,hj,e2⟩:=List.mem_iff_getElem.1 q1
    have:=(h.lo j hj).2
    omega
   ·simp at q1;omega
structure MX (B:Nat) (w1 W:World) (n A:Nat) (gs:List Nat) (M:Nat→Nat→Bool):Prop where
 bl:Below B w1 W
 gl:gs.length=n
 oc:∀ i (h:i<gs.length),W.cell? ⟨A,i,none⟩=some (rowV n gs[i])
 nw:∀ i (h:i<gs.length),Nw W gs[i] n (fun k=>.bool (M i k))
 lo:∀ i (h:i<gs.length),B≤gs[i]∧gs[i]≠A
 nd:gs.Nodup
 hA:B≤A
def updM (M:Nat→Nat→Bool) (i k:Nat) (v:Bool):Nat→Nat→Bool:=fun a b=>if a=i∧b=k then v else M a b
theorem MX.set {B:Nat}{w1 W:World}{n A:Nat}{gs:List Nat}{M:Nat→Nat→Bool} (h:MX B w1 W n A gs M) {i k:Nat} (hi:i<gs.length) (hk:k<n) (v:Bool):MX B w1 (W.setCell ⟨gs[i],k,none⟩ (.bool v)) n A gs (updM M i k v):=by
 obtain⟨l1,l2⟩:=h.lo i hi
 refine⟨h.bl.setCell l1 _,h.gl,fun j hj=>?_,fun j hj=>?_,h.lo,h.nd,h.hA⟩
 ·have e:=set_blk W gs[i] k (.bool v) (Ne.symm l2)
  rw[←h.oc j hj];simp only[World.cell?,e]
 ·by_cases e:j=i
  ·subst e
   exact((h.nw j hj).set k hk (.bool v)).congr (fun b hb=>by unfold updM;by_cases e:b=k<;>simp[e])
  ·refine((h.nw j hj).of_block (set_blk _ _ _ _ (fun e2=>e ((List.getElem_inj h.nd).1 e2)))).congr (fun b hb=>?_)
   unfold updM;simp[e]
theorem TO.mx {B:Nat}{w1 W:World}{n:Nat}{D:Nat→Nat→Bool}{vo:Value}{gs:List Nat} (h:TO B w1 W n D vo gs) (hn:gs.length=n) (h1:0<n):∃ A cap,vo=.slice (some ⟨A,0,none⟩) n cap∧MX B w1 W n A gs D:=by
 have ho:=h.ow
 rcases ho.2 with⟨-,q⟩|⟨g,cap,cur,e,hb,hh,q1,q2,q3,q4⟩
 ·omega
 ·subst e
  refine⟨g,cap,by rw[hn],h.bl,hn,fun i hi=>?_,h.nw,fun i hi=>⟨(h.lo i hi).1,fun e=>h.no g rfl (e▸List.getElem_mem hi)⟩,h.nd,hb⟩
  obtain⟨b,o,c,e,hc⟩:=(own_rowE h.ow).nonnil (by omega)
  injection e with e1 e2 e3
  injection e1 with e1
  injection e1 with e4 e5 e6
  subst e4
  subst e5
  have:=hc i hi
  rwa [Nat.zero_add] at this
theorem countP_lt {α:Type} (p q:α→Bool):∀ {l:List α},(∀ x∈l,q x=true→p x=true)→(∃ x∈l,p x=true∧q x=false)→l.countP q<l.countP p
 |[],_,⟨x,hx,_⟩=>by simp at hx
 |y::l,h,⟨x,hx,h1,h2⟩=>by
  have hm:l.countP q≤l.countP p:=List.countP_mono_left (fun z hz=>h z (by simp[hz]))
  rw[List.countP_cons,List.countP_cons]
  rcases List.mem_cons.1 hx with rfl|hx
  ·rw[h1,h2];simp;omega
  ·have ih:=countP_lt p q (l:=l) (fun z hz=>h z (by simp[hz])) ⟨x,hx,h1,h2⟩
   have hy:=h y (by simp)
   cases hq:q y with
   |true=>rw[hy hq];simp;omega
   |false=>simp;split<;>omega
def falses (n:Nat) (M:Nat→Nat→Bool):Nat:=((List.range n).flatMap fun a=>(List.range n).map fun b=>(a,b)).countP (fun p=>!M p.1 p.2)
theorem falses_lt {n:Nat}{M M':Nat→Nat→Bool} (h:∀ a b,M a b=true→M' a b=true) {a b:Nat} (ha:a<n) (hb:b<n) (h1:M a b=false) (h2:M' a b=true):falses n M'<falses n M:=by
 refine countP_lt _ _ (fun x _ hx=>?_) ⟨(a,b),?_,by simp[h1],by simp[h2]⟩
 ·simp only[Bool.not_eq_true'] at hx ⊢
  cases hm:M x.1 x.2 with
  |false=>rfl
  |true=>rw[h _ _ hm] at hx;cases hx
 ·simp[ha,hb]
theorem falses_le {n:Nat}{M M':Nat→Nat→Bool} (h:∀ a b,M a b=true→M' a b=true):falses n M'≤falses n M:=by
 refine List.countP_mono_left (fun x _ hx=>?_)
 simp only[Bool.not_eq_true'] at hx ⊢
 cases hm:M x.1 x.2 with
 |false=>rfl
 |true=>rw[h _ _ hm] at hx;cases hx
theorem falses_congr {n:Nat}{M M':Nat→Nat→Bool} (h:∀ a b,a<n→b<n→M a b=M' a b):falses n M=falses n M':=by
 refine List.countP_congr (fun x hx=>?_)
 simp only[List.mem_flatMap,List.mem_range,List.mem_map] at hx
 obtain⟨a,ha,b,hb,rfl⟩:=hx
 simp[h a b ha hb]
def boolAt (w:World) (g o:Nat):Bool:=match w.cell? ⟨g,o,none⟩ with
 |some (.bool b)=>b
 |_=>false
theorem MX.falses {B:Nat}{w1 W:World}{n A:Nat}{gs:List Nat}{M:Nat→Nat→Bool} (h:MX B w1 W n A gs M):falses n (fun a b=>boolAt W (gs.getD a 0) b)=falses n M:=by
 refine falses_congr (fun a b ha hb=>?_)
 have ha':a<gs.length:=by rw[h.gl];exact ha
 have e:gs.getD a 0=gs[a]:=by simp[ha']
 simp only[boolAt,e,(h.nw a ha').c b hb]
theorem MX.drew {B:Nat}{w1 W:World}{n A:Nat}{gs:List Nat}{M:Nat→Nat→Bool} (h:MX B w1 W n A gs M) (k:Nat):MX B w1 (W.drewN k) n A gs M:=⟨⟨h.bl.os,h.bl.tape,h.bl.output,h.bl.size,h.bl.block⟩,h.gl,h.oc,fun i hi=>⟨(h.nw i hi).c,(h.nw i hi).fz⟩,h.lo,h.nd,h.hA⟩
theorem MX.drew1 {B:Nat}{w1 W:World}{n A:Nat}{gs:List Nat}{M:Nat→Nat→Bool} (h:MX B w1 W n A gs M):MX B w1 W.drew n A gs M:=⟨⟨h.bl.os,h.bl.tape,h.bl.output,h.bl.size,h.bl.block⟩,h.gl,h.oc,fun i hi=>⟨(h.nw i hi).c,(h.nw i hi).fz⟩,h.lo,h.nd,h.hA⟩
structure SW (n c:Nat) (nxt:Nat→Nat→Nat) (M0 M:Nat→Nat→Bool) (g:Bool) (i k d:Nat):Prop where
 mo:∀ a b,M0 a b=true→M a b=true
 ag:g=true→∃ a b,a<n∧b<n∧M0 a b=false∧M a b=true
 no:g=false→(∀ a b,M a b=M0 a b)∧∀ a b e,a<n→b<n→e<c→(a<i∨(a=i∧(b<k∨(b=k∧e<d))))→M0 a b=false→M0 (nxt a e) (nxt b e)=false
theorem SW.start (n c:Nat) (nxt:Nat→Nat→Nat) (M:Nat→Nat→Bool):SW n c nxt M M false 0 0 0:=⟨fun _ _ h=>h,fun h=>(by cases h),fun _=>⟨fun _ _=>rfl,fun a b e _ _ _ h=>by omega⟩⟩
theorem SW.hit {n c:Nat}{nxt:Nat→Nat→Nat}{M0 M:Nat→Nat→Bool}{g:Bool}{i k d:Nat} (h:SW n c nxt M0 M g i k d) (hi:i<n) (hk:k<n) (hf:M i k=false):SW n c nxt M0 (updM M i k true) true i k (d+1):=by
 refine⟨fun a b e=>?_,fun _=>⟨i,k,hi,hk,?_,by simp[updM]⟩,fun h=>by cases h⟩
 ·unfold updM;split
  ·rfl
  ·exact h.mo a b e
 ·cases e:M0 i k with
  |false=>rfl
  |true=>rw[h.mo i k e] at hf;cases hf
theorem SW.miss {n c:Nat}{nxt:Nat→Nat→Nat}{M0 M:Nat→Nat→Bool}{g:Bool}{i k d:Nat} (h:SW n c nxt M0 M g i k d) (hf:M i k=false) (hm:M (nxt i d) (nxt k d)=false):SW n c nxt M0 (updM M i k false) g i k (d+1):=by
 have e:∀ a b,updM M i k false a b=M a b:=fun a b=>by
  unfold updM;split
  ·rename_i q;rw[q.1,q.2,hf]
  ·rfl
 refine⟨fun a b q=>by rw[e];exact h.mo a b q,fun q=>?_,fun q=>⟨fun a b=>by rw[e];exact(h.no q).1 a b,fun a b x ha hb hx hl h0=>?_⟩⟩
 ·obtain⟨a,b,h1,h2,h3,h4⟩:=h.ag q
  exact⟨a,b,h1,h2,h3,by rw[e];exact h4⟩
 ·by_cases hn:a=i∧b=k∧x=d
  ·obtain⟨rfl,rfl,rfl⟩:=hn
   rw[←(h.no q).1];exact hm
  ·exact(h.no q).2 a b x ha hb hx (by omega) h0
theorem SW.next {n c:Nat}{nxt:Nat→Nat→Nat}{M0 M:Nat→Nat→Bool}{g:Bool}{i k d:Nat} (h:SW n c nxt M0 M g i k d) (hf:M i k=true∨c≤d):SW n c nxt M0 M g i (k+1) 0:=by
 refine⟨h.mo,h.ag,fun q=>⟨(h.no q).1,fun a b x ha hb hx hl h0=>?_⟩⟩
 by_cases hn:a=i∧b=k
 ·obtain⟨rfl,rfl⟩:=hn
  rcases hf with hf|hf
  ·rw[(h.no q).1] at hf;rw[hf] at h0;cases h0
  ·exact(h.no q).2 a b x ha hb hx (by omega) h0
 ·exact(h.no q).2 a b x ha hb hx (by omega) h0
theorem SW.row {n c:Nat}{nxt:Nat→Nat→Nat}{M0 M:Nat→Nat→Bool}{g:Bool}{i k:Nat} (h:SW n c nxt M0 M g i k 0) (hk:n≤k):SW n c nxt M0 M g (i+1) 0 0:=⟨h.mo,h.ag,fun q=>⟨(h.no q).1,fun a b x ha hb hx hl h0=>(h.no q).2 a b x ha hb hx (by omega) h0⟩⟩
def Clo (n c:Nat) (nxt:Nat→Nat→Nat) (M:Nat→Nat→Bool):Prop:=∀ a b e,a<n→b<n→e<c→M a b=false→M (nxt a e) (nxt b e)=false
theorem SW.done {n c:Nat}{nxt:Nat→Nat→Nat}{M0 M:Nat→Nat→Bool}{i:Nat} (h:SW n c nxt M0 M false i 0 0) (hi:n≤i):Clo n c nxt M:=fun a b e ha hb he h0=>by
 obtain⟨h1,h2⟩:=h.no rfl
 rw[h1] at h0 ⊢
 exact h2 a b e ha hb he (by omega) h0
theorem wp_norm {P:Program}{c:Code}{Q:Exit→Act→World→Prop}{a:Act}{w:World} (h:Code.wp P c (Exit.then (fun a w=>Q .normal a w) (fun _ _ _=>False)) a w):Code.wp P c Q a w:=wp_mono h (fun e a w h=>by
 cases e
 ·exact h
 all_goals exact h.elim)
abbrev tBody : Code := (((Code.region 22 #[{ dst := some 56, op := Op.move (Operand.tmp 11), type := 3, pos := "keeps.go:144", after := #[], guard := none }, { dst := some 57, op := Op.fieldAddr 33 (Operand.tmp 1) 5, type := 0, pos := "keeps.go:144", after := #[], guard := none }, { dst := some 58, op := Op.load 31 (Operand.tmp 57), type := 31, pos := "keeps.go:144", after := #[{ on := 1, ground := Ground.data }], guard := none }, { dst := some 59, op := Op.move (Operand.tmp 9), type := 3, pos := "keeps.go:144", after := #[], guard := none }, { dst := some 60, op := Op.indexAddr 31 (Operand.tmp 58) (Operand.tmp 59), type := 0, pos := "keeps.go:144", after := #[{ on := 2, ground := Ground.data }, { on := 3, ground := Ground.data }], guard := none }, { dst := some 61, op := Op.load 40 (Operand.tmp 60), type := 40, pos := "keeps.go:144", after := #[{ on := 4, ground := Ground.data }], guard := none }, { dst := some 62, op := Op.call { callee := Callee.builtin Builtin.len, args := #[Operand.tmp 61], argTypes := #[40] }, type := 3, pos := "keeps.go:144", after := #[{ on := 5, ground := Ground.data }], guard := none }, { dst := some 63, op := Op.binOp BinOp.lss 3 (Operand.tmp 56) (Operand.tmp 62) 3, type := 4, pos := "keeps.go:144", after := #[{ on := 0, ground := Ground.data }, { on := 6, ground := Ground.data }], guard := none }, { dst := some 64, op := Op.move (Operand.tmp 63), type := 4, pos := "keeps.go:144", after := #[{ on := 7, ground := Ground.data }], guard := none }, { dst := some 65, op := Op.move (Operand.tmp 4), type := 41, pos := "keeps.go:144", after := #[{ on := 8, ground := Ground.guard }], guard := some (8, true) }, { dst := some 66, op := Op.move (Operand.tmp 9), type := 3, pos := "keeps.go:144", after := #[{ on := 8, ground := Ground.guard }], guard := some (8, true) }, { dst := some 67, op := Op.indexAddr 41 (Operand.tmp 65) (Operand.tmp 66), type := 0, pos := "keeps.go:144", after := #[{ on := 9, ground := Ground.data }, { on := 10, ground := Ground.data }, { on := 8, ground := Ground.guard }], guard := some (8, true) }, { dst := some 68, op := Op.load 30 (Operand.tmp 67), type := 30, pos := "keeps.go:144", after := #[{ on := 11, ground := Ground.data }, { on := 8, ground := Ground.guard }], guard := some (8, true) }, { dst := some 69, op := Op.move (Operand.tmp 10), type := 3, pos := "keeps.go:144", after := #[{ on := 8, ground := Ground.guard }], guard := some (8, true) }, { dst := some 70, op := Op.indexAddr 30 (Operand.tmp 68) (Operand.tmp 69), type := 0, pos := "keeps.go:144", after := #[{ on := 12, ground := Ground.data }, { on := 13, ground := Ground.data }, { on := 8, ground := Ground.guard }], guard := some (8, true) }, { dst := some 71, op := Op.load 4 (Operand.tmp 70), type := 4, pos := "keeps.go:144", after := #[{ on := 14, ground := Ground.data }, { on := 8, ground := Ground.guard }], guard := some (8, true) }, { dst := some 72, op := Op.unOp UnOp.not 4 (Operand.tmp 71), type := 4, pos := "keeps.go:144", after := #[{ on := 15, ground := Ground.data }, { on := 8, ground := Ground.guard }], guard := some (8, true) }, { dst := some 73, op := Op.pick (Operand.tmp 64) (Operand.tmp 72) (Operand.const (Value.bool false)), type := 4, pos := "keeps.go:144", after := #[{ on := 8, ground := Ground.data }, { on := 16, ground := Ground.data }], guard := none }] false).seq (Code.cond (Operand.tmp 73) Code.skip (Code.exit 10))).seq ((Code.block 11 ((Code.region 24 #[{ dst := some 76, op := Op.move (Operand.tmp 4), type := 41, pos := "keeps.go:145", after := #[], guard := none }, { dst := some 77, op := Op.move (Operand.tmp 9), type := 3, pos := "keeps.go:145", after := #[], guard := none }, { dst := some 78, op := Op.indexAddr 41 (Operand.tmp 76) (Operand.tmp 77), type := 0, pos := "keeps.go:145", after := #[{ on := 0, ground := Ground.data }, { on := 1, ground := Ground.data }], guard := none }, { dst := some 79, op := Op.load 30 (Operand.tmp 78), type := 30, pos := "keeps.go:145", after := #[{ on := 2, ground := Ground.data }], guard := none }, { dst := some 80, op := Op.move (Operand.tmp 10), type := 3, pos := "keeps.go:145", after := #[], guard := none }, { dst := some 81, op := Op.move (Operand.tmp 4), type := 41, pos := "keeps.go:145", after := #[], guard := none }, { dst := some 82, op := Op.fieldAddr 33 (Operand.tmp 1) 5, type := 0, pos := "keeps.go:145", after := #[], guard := none }, { dst := some 83, op := Op.load 31 (Operand.tmp 82), type := 31, pos := "keeps.go:145", after := #[{ on := 6, ground := Ground.data }], guard := none }, { dst := some 84, op := Op.move (Operand.tmp 9), type := 3, pos := "keeps.go:145", after := #[], guard := none }, { dst := some 85, op := Op.indexAddr 31 (Operand.tmp 83) (Operand.tmp 84), type := 0, pos := "keeps.go:145", after := #[{ on := 7, ground := Ground.data }, { on := 8, ground := Ground.data }], guard := none }, { dst := some 86, op := Op.load 40 (Operand.tmp 85), type := 40, pos := "keeps.go:145", after := #[{ on := 9, ground := Ground.data }], guard := none }, { dst := some 87, op := Op.move (Operand.tmp 11), type := 3, pos := "keeps.go:145", after := #[], guard := none }, { dst := some 88, op := Op.indexAddr 40 (Operand.tmp 86) (Operand.tmp 87), type := 0, pos := "keeps.go:145", after := #[{ on := 10, ground := Ground.data }, { on := 11, ground := Ground.data }], guard := none }, { dst := some 89, op := Op.load 3 (Operand.tmp 88), type := 3, pos := "keeps.go:145", after := #[{ on := 12, ground := Ground.data }], guard := none }, { dst := some 90, op := Op.indexAddr 41 (Operand.tmp 81) (Operand.tmp 89), type := 0, pos := "keeps.go:145", after := #[{ on := 5, ground := Ground.data }, { on := 13, ground := Ground.data }], guard := none }, { dst := some 91, op := Op.load 30 (Operand.tmp 90), type := 30, pos := "keeps.go:145", after := #[{ on := 14, ground := Ground.data }], guard := none }, { dst := some 92, op := Op.fieldAddr 33 (Operand.tmp 1) 5, type := 0, pos := "keeps.go:145", after := #[], guard := none }, { dst := some 93, op := Op.load 31 (Operand.tmp 92), type := 31, pos := "keeps.go:145", after := #[{ on := 16, ground := Ground.data }], guard := none }, { dst := some 94, op := Op.move (Operand.tmp 10), type := 3, pos := "keeps.go:145", after := #[], guard := none }, { dst := some 95, op := Op.indexAddr 31 (Operand.tmp 93) (Operand.tmp 94), type := 0, pos := "keeps.go:145", after := #[{ on := 17, ground := Ground.data }, { on := 18, ground := Ground.data }], guard := none }, { dst := some 96, op := Op.load 40 (Operand.tmp 95), type := 40, pos := "keeps.go:145", after := #[{ on := 19, ground := Ground.data }], guard := none }, { dst := some 97, op := Op.move (Operand.tmp 11), type := 3, pos := "keeps.go:145", after := #[], guard := none }, { dst := some 98, op := Op.indexAddr 40 (Operand.tmp 96) (Operand.tmp 97), type := 0, pos := "keeps.go:145", after := #[{ on := 20, ground := Ground.data }, { on := 21, ground := Ground.data }], guard := none }, { dst := some 99, op := Op.load 3 (Operand.tmp 98), type := 3, pos := "keeps.go:145", after := #[{ on := 22, ground := Ground.data }], guard := none }, { dst := some 100, op := Op.indexAddr 30 (Operand.tmp 91) (Operand.tmp 99), type := 0, pos := "keeps.go:145", after := #[{ on := 15, ground := Ground.data }, { on := 23, ground := Ground.data }], guard := none }, { dst := some 101, op := Op.load 4 (Operand.tmp 100), type := 4, pos := "keeps.go:145", after := #[{ on := 24, ground := Ground.data }], guard := none }, { dst := some 102, op := Op.indexAddr 30 (Operand.tmp 79) (Operand.tmp 80), type := 0, pos := "keeps.go:145", after := #[{ on := 3, ground := Ground.data }, { on := 4, ground := Ground.data }, { on := 0, ground := Ground.phase }, { on := 1, ground := Ground.phase }, { on := 2, ground := Ground.phase }, { on := 3, ground := Ground.phase }, { on := 4, ground := Ground.phase }, { on := 5, ground := Ground.phase }, { on := 6, ground := Ground.phase }, { on := 7, ground := Ground.phase }, { on := 8, ground := Ground.phase }, { on := 9, ground := Ground.phase }, { on := 10, ground := Ground.phase }, { on := 11, ground := Ground.phase }, { on := 12, ground := Ground.phase }, { on := 13, ground := Ground.phase }, { on := 14, ground := Ground.phase }, { on := 15, ground := Ground.phase }, { on := 16, ground := Ground.phase }, { on := 17, ground := Ground.phase }, { on := 18, ground := Ground.phase }, { on := 19, ground := Ground.phase }, { on := 20, ground := Ground.phase }, { on := 21, ground := Ground.phase }, { on := 22, ground := Ground.phase }, { on := 23, ground := Ground.phase }, { on := 24, ground := Ground.phase }, { on := 25, ground := Ground.phase }], guard := none }, { dst := none, op := Op.store 4 (Operand.tmp 102) (Operand.tmp 101), type := 0, pos := "keeps.go:145", after := #[{ on := 26, ground := Ground.data }, { on := 25, ground := Ground.data }, { on := 0, ground := Ground.phase }, { on := 1, ground := Ground.phase }, { on := 2, ground := Ground.phase }, { on := 3, ground := Ground.phase }, { on := 4, ground := Ground.phase }, { on := 5, ground := Ground.phase }, { on := 6, ground := Ground.phase }, { on := 7, ground := Ground.phase }, { on := 8, ground := Ground.phase }, { on := 9, ground := Ground.phase }, { on := 10, ground := Ground.phase }, { on := 11, ground := Ground.phase }, { on := 12, ground := Ground.phase }, { on := 13, ground := Ground.phase }, { on := 14, ground := Ground.phase }, { on := 15, ground := Ground.phase }, { on := 16, ground := Ground.phase }, { on := 17, ground := Ground.phase }, { on := 18, ground := Ground.phase }, { on := 19, ground := Ground.phase }, { on := 20, ground := Ground.phase }, { on := 21, ground := Ground.phase }, { on := 22, ground := Ground.phase }, { on := 23, ground := Ground.phase }, { on := 24, ground := Ground.phase }, { on := 25, ground := Ground.phase }], guard := none }] true).seq (Code.region 25 #[{ dst := some 103, op := Op.move (Operand.tmp 8), type := 4, pos := "keeps.go:146", after := #[], guard := none }, { dst := some 104, op := Op.move (Operand.tmp 103), type := 4, pos := "keeps.go:146", after := #[{ on := 0, ground := Ground.data }], guard := none }, { dst := some 105, op := Op.move (Operand.tmp 4), type := 41, pos := "keeps.go:146", after := #[{ on := 1, ground := Ground.guard }], guard := some (1, false) }, { dst := some 106, op := Op.move (Operand.tmp 9), type := 3, pos := "keeps.go:146", after := #[{ on := 1, ground := Ground.guard }], guard := some (1, false) }, { dst := some 107, op := Op.indexAddr 41 (Operand.tmp 105) (Operand.tmp 106), type := 0, pos := "keeps.go:146", after := #[{ on := 2, ground := Ground.data }, { on := 3, ground := Ground.data }, { on := 1, ground := Ground.guard }], guard := some (1, false) }, { dst := some 108, op := Op.load 30 (Operand.tmp 107), type := 30, pos := "keeps.go:146", after := #[{ on := 4, ground := Ground.data }, { on := 1, ground := Ground.guard }], guard := some (1, false) }, { dst := some 109, op := Op.move (Operand.tmp 10), type := 3, pos := "keeps.go:146", after := #[{ on := 1, ground := Ground.guard }], guard := some (1, false) }, { dst := some 110, op := Op.indexAddr 30 (Operand.tmp 108) (Operand.tmp 109), type := 0, pos := "keeps.go:146", after := #[{ on := 5, ground := Ground.data }, { on := 6, ground := Ground.data }, { on := 1, ground := Ground.guard }], guard := some (1, false) }, { dst := some 111, op := Op.load 4 (Operand.tmp 110), type := 4, pos := "keeps.go:146", after := #[{ on := 7, ground := Ground.data }, { on := 1, ground := Ground.guard }], guard := some (1, false) }, { dst := some 112, op := Op.pick (Operand.tmp 104) (Operand.const (Value.bool true)) (Operand.tmp 111), type := 4, pos := "keeps.go:146", after := #[{ on := 1, ground := Ground.data }, { on := 8, ground := Ground.data }], guard := none }, { dst := some 8, op := Op.assign (Operand.tmp 112), type := 4, pos := "keeps.go:146", after := #[{ on := 9, ground := Ground.data }, { on := 1, ground := Ground.chain }, { on := 0, ground := Ground.phase }, { on := 1, ground := Ground.phase }, { on := 2, ground := Ground.phase }, { on := 3, ground := Ground.phase }, { on := 4, ground := Ground.phase }, { on := 5, ground := Ground.phase }, { on := 6, ground := Ground.phase }, { on := 7, ground := Ground.phase }, { on := 8, ground := Ground.phase }, { on := 9, ground := Ground.phase }], guard := none }] false))).seq (Code.region 23 #[{ dst := some 74, op := Op.move (Operand.tmp 11), type := 3, pos := "keeps.go:144", after := #[], guard := none }, { dst := some 75, op := Op.binOp BinOp.add 3 (Operand.tmp 74) (Operand.const (Value.int IntKind.i64 1)) 3, type := 3, pos := "keeps.go:144", after := #[{ on := 0, ground := Ground.data }], guard := none }, { dst := some 11, op := Op.assign (Operand.tmp 75), type := 3, pos := "keeps.go:144", after := #[{ on := 1, ground := Ground.data }, { on := 0, ground := Ground.phase }, { on := 1, ground := Ground.phase }], guard := none }] false)))
theorem told_round (W:World) (p A n cap b0 o0 cn b3 o3 c rc b4 o4 rc' u v gx gu x y z:Nat) (g3 val:Bool) (x0 x2 x3 x5 x6 x7 x12 x13 x14 x15 x16 x17 x18 x19 x20 x21 x22 x23 x24 x25 x26 x27 x28 x29 x30 x31 x32 x33 x34 x35 x36 x37 x38 x39 x40 x41 x42 x43 x44 x45 x46 x47 x48 x49 x50 x51 x52 x53 x54 x55 x56 x57 x58 x59 x60 x61 x62 x63 x64 x65 x66 x67 x68 x69 x70 x71 x72 x73 x74 x75 x76 x77 x78 x79 x80 x81 x82 x83 x84 x85 x86 x87 x88 x89 x90 x91 x92 x93 x94 x95 x96 x97 x98 x99 x100 x101 x102 x103 x104 x105 x106 x107 x108 x109 x110 x111 x112 x113:Value)
  (p5:W.cell? ⟨p,5,none⟩=some (.slice (some ⟨b0,o0,none⟩) n cn)) (d1:W.cell? ⟨b0,o0+x,none⟩=some (.slice (some ⟨b3,o3,none⟩) c rc)) (d2:W.cell? ⟨b3,o3+z,none⟩=some (.int .i64 (u:Nat))) (d3:W.cell? ⟨b0,o0+y,none⟩=some (.slice (some ⟨b4,o4,none⟩) c rc')) (d4:W.cell? ⟨b4,o4+z,none⟩=some (.int .i64 (v:Nat)))
  (o1:W.cell? ⟨A,x,none⟩=some (.slice (some ⟨gx,0,none⟩) n n)) (o2:W.cell? ⟨A,u,none⟩=some (.slice (some ⟨gu,0,none⟩) n n)) (t1:W.cell? ⟨gx,y,none⟩=some (.bool false)) (t2:∀ o,W.frozen? ⟨gx,o,none⟩=false) (t3:W.cell? ⟨gu,v,none⟩=some (.bool val))
  (hxI:(x:Int)<n) (hyI:(y:Int)<n) (hzI:(z:Int)<c) (huI:(u:Int)<n) (hvI:(v:Int)<n) (hn:n≤200) (hc:c≤256) (e1:(W.setCell ⟨gx,y,none⟩ (.bool val)).drew.cell? ⟨A,x,none⟩=some (.slice (some ⟨gx,0,none⟩) n n)) (e2:(W.setCell ⟨gx,y,none⟩ (.bool val)).drew.cell? ⟨gx,y,none⟩=some (.bool val))
  (F:Act→World→Prop) (hq:∀ u56 u57 u58 u59 u60 u61 u62 u63 u64 u65 u66 u67 u68 u69 u70 u71 u72 u73 u74 u75 u76 u77 u78 u79 u80 u81 u82 u83 u84 u85 u86 u87 u88 u89 u90 u91 u92 u93 u94 u95 u96 u97 u98 u99 u100 u101 u102 u103 u104 u105 u106 u107 u108 u109 u110 u111 u112,F {tmps:=#[x0,.pointer (some ⟨p,0,none⟩),x2,x3,.slice (some ⟨A,0,none⟩) n cap,x5,x6,x7,.bool (g3||val),.int .i64 (x:Nat),.int .i64 (y:Nat),.int .i64 ((z:Int)+1),x12,x13,x14,x15,x16,x17,x18,x19,x20,x21,x22,x23,x24,x25,x26,x27,x28,x29,x30,x31,x32,x33,x34,x35,x36,x37,x38,x39,x40,x41,x42,x43,x44,x45,x46,x47,x48,x49,x50,x51,x52,x53,x54,x55,u56,u57,u58,u59,u60,u61,u62,u63,u64,u65,u66,u67,u68,u69,u70,u71,u72,u73,u74,u75,u76,u77,u78,u79,u80,u81,u82,u83,u84,u85,u86,u87,u88,u89,u90,u91,u92,u93,u94,u95,u96,u97,u98,u99,u100,u101,u102,u103,u104,u105,u106,u107,u108,u109,u110,u111,u112,x113],defers:=[]} (W.setCell ⟨gx,y,none⟩ (.bool val)).drew):Code.wp Tryz.prog tBody (Exit.then F (fun _ _ _=>False)) {tmps:=#[x0,.pointer (some ⟨p,0,none⟩),x2,x3,.slice (some ⟨A,0,none⟩) n cap,x5,x6,x7,.bool g3,.int .i64 (x:Nat),.int .i64 (y:Nat),.int .i64 (z:Nat),x12,x13,x14,x15,x16,x17,x18,x19,x20,x21,x22,x23,x24,x25,x26,x27,x28,x29,x30,x31,x32,x33,x34,x35,x36,x37,x38,x39,x40,x41,x42,x43,x44,x45,x46,x47,x48,x49,x50,x51,x52,x53,x54,x55,x56,x57,x58,x59,x60,x61,x62,x63,x64,x65,x66,x67,x68,x69,x70,x71,x72,x73,x74,x75,x76,x77,x78,x79,x80,x81,x82,x83,x84,x85,x86,x87,x88,x89,x90,x91,x92,x93,x94,x95,x96,x97,x98,x99,x100,x101,x102,x103,x104,x105,x106,x107,x108,x109,x110,x111,x112,x113],defers:=[]} W:=by
 obtain⟨W',hW'⟩:∃ W',W'=(W.setCell ⟨gx,y,none⟩ (.bool val)).drew:=⟨_,rfl⟩
 rw[←hW'] at e1 e2 hq
 have HW:Hid (W'=(W.setCell ⟨gx,y,none⟩ (.bool val)).drew):=hW'
 have HE:Hid (_∧_):=⟨e1,e2⟩
 have HQ:Hid _:=hq
 clear e1 e2 hq hW'
 cases val<;>cases g3
 all_goals
  unfold tBody
  go_wp2
  go_region
  rw[←HW.out]
  obtain⟨e1,e2⟩:=HE.out
  clear HW HE d1 d2 d3 d4 o1 o2 t1 t2 t3 p5
  go_wp2
  exact HQ.out _ _ _ _ _ _ _ _ _ _ _ _ _ _ _ _ _ _ _ _ _ _ _ _ _ _ _ _ _ _ _ _ _ _ _ _ _ _ _ _ _ _ _ _ _ _ _ _ _ _ _ _ _ _ _ _ _
theorem nx_tb (t:Tn) (i d:Nat):(((tbOf t).next.getD i []).getD d 0).toNat=nx t i d:=by
 simp only[tbOf,nx,List.getD_eq_getElem?_getD,List.getElem?_map]
 cases h:t.next[i]? with
 |none=>simp
 |some r=>
  simp only[Option.map_some,Option.getD_some,List.getElem?_map]
  cases h2:r[d]?<;>simp
structure LsF (tb:Tb) (n k:Nat) (N:List (List Nat)) (limit:Nat):Prop where
 ok:TbOk tb k
 al:tb.acc.length=n
 nl:n≤limit
 st:tb.start=0
 nx:tb.next=N.map fun r=>r.map Int.ofNat
 nu:numRows 0 1 N=some N.length
 tl:∀ M:Nat→Nat→Bool,Clo n k (fun i d=>((tb.next.getD i []).getD d 0).toNat) M→(∀ a b,a<n→b<n→(tb.acc.getD a false != tb.acc.getD b false)=true→M a b=true)→∀ i j,i<n→j<i→M i j=true
 cl:∀ c d,c<k→d<c→∃ i,i<n∧((tb.next.getD i []).getD c 0).toNat≠((tb.next.getD i []).getD d 0).toNat
theorem least_facts {p:Sx.Ptn}{limit:Nat}{t:Tn} (h1:1≤limit) (h2:limit≤200) (h:searchM p limit=some t):∃ n k,LsF (tbOf (leastM t)) n k (leastM t).next limit:=by
 obtain⟨n0,k0,hn,hk,hF⟩:=searchM_full h1 h
 obtain⟨n,k,hL⟩:=leastM_lst hF (by omega)
 obtain⟨hi,-⟩:=least_small hF.ok (by omega) hk
 obtain⟨c,hok⟩:=tbOk_of hi
 have hal:(tbOf (leastM t)).acc.length=n:=by simp[tbOf,hL.ok.al]
 have hck:c=k:=by
  have h3:=hL.ok.n1
  have h4:=hL.ok.nl
  have h5:0<(leastM t).next.length:=by omega
  have h6:=(hL.ok.r _ (List.getElem_mem h5)).1
  have h7:=(hok.r (((leastM t).next[0]).map Int.ofNat) (by simp only[tbOf];exact List.mem_map.2 ⟨_,List.getElem_mem h5,rfl⟩)).1
  simp at h7
  omega
 subst hck
 refine⟨n,c,⟨hok,hal,by have:=hL.nn;omega,rfl,rfl,leastM_num t,fun M hM hd i j hi hj=>?_,fun c' d hc hd=>?_⟩⟩
 ·cases hm:M i j with
  |true=>rfl
  |false=>
   exfalso
   have:=hL.st (fun a b=>a<n∧b<n∧M a b=false) (fun a b hab=>by
    obtain⟨q1,q2,q3⟩:=hab
    refine⟨q1,q2,?_,fun e he=>⟨hL.ok.nx_lt q1 he,hL.ok.nx_lt q2 he,?_⟩⟩
    ·cases hx:((tbOf (leastM t)).acc.getD a false != (tbOf (leastM t)).acc.getD b false) with
     |true=>rw[hd a b q1 q2 hx] at q3;cases q3
     |false=>simpa [tbOf,ac] using hx
    ·have:=hM a b e q1 q2 he q3
     simp only[nx_tb] at this
     exact this) i j ⟨hi,by omega,hm⟩
   omega
 ·obtain⟨i,hi,hne⟩:=hL.cl c' d hc (by omega) (by omega)
  exact⟨i,hi,by rw[nx_tb,nx_tb];exact hne⟩
end Go.Proofs.YtbjabpodkaokjaaGreatDoor

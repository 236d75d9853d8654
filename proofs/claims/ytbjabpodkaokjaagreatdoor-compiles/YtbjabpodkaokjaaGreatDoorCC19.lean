import Derived.Test.YtbjabpodkaokjaaGreatDoorCC18
import Derived.Great.Walk
import Derived.Test.YtbjabpodkaokjaaGreatDoorCC13
import Derived.Laws.OwnMore
set_option linter.all false
set_option maxHeartbeats 4000000
set_option maxRecDepth 100000
open List Nat Go.World Go.Proofs.Tryz
namespace Go.Proofs.YtbjabpodkaokjaaGreatDoor
open Go.RowKit
variable {lo:Nat}{w:World}{g:Nat}{v:Value}{sp:Nat}{vs vf:Value}{us:List Value}{x:Rx}{v':Value}{l:List Nat}{bs:List (Nat->Bool)}{k j b:Nat}{w':World}{N:Nat}{wa w4:World}{H base n:Nat}{O:Nat->Prop}{ops:Array Oper}{o:Oper}{a:Act}{Q:Exit->Act->World->Prop}{S:Nat->Prop}{size:Nat}{xs:List Value}{la lb:List Nat}{p q:Rp}
def oU:Array Value:=(replicate 256 (Value.int .u8 0)).toArray
def Tryz.infoA256:(prog.info? 160).map (λi=>(i.zero,i.size,i.bytes))=some (some (.agg oU),256,256):=κ
def jV {rest:List Oper} (hg:o.guard=none) (ho:o.op=.alloc 160) (dst:Option Tmp) (hdst:o.dst=dst) (N:Nat) (hN:w.heap.size=N)
  (h:wpList prog ops Q rest (a.put dst (.pointer (some ⟨N,0,none⟩))) (w.alloc (.cells oU 160))):wpList prog ops Q (o::rest) a w:=by
 obtain⟨i0,hi,e,m,i⟩:=info_parts Tryz.infoA256;refine Great.wpList_runTo hg dst hdst _ _ ?_ h;subst hN;unfold execOp;simp only[ho,Instr.alloc,zeroValue,newVar,newRow,Sem.run_bind,run_newObj_alloc,Sem.run_pure,Result.andThen_ok];have d:(typeInfo 160).run prog w=.ok i0 w:=by unfold typeInfo;simp[hi]
 rw[d];simp[e,Value.cells]
def JO (w:World) (T:TypeId):Nw (w.alloc (.cells oU T)) w.heap.size 256 (λ_=>.int .u8 0):=by
 refine⟨λi hi=>?_,λo=>by simp[go_sem]⟩;rw[cell?_alloc_at _ _ _ _ rfl];unfold oU;rw[getElem?_toArray,getElem?_replicate,Zi hi]
def B1 {l:List UInt8} (h:Nw w g 256 (λj=>.int .u8 ((l[j]?.getD 0).toNat:Int))) (hl:l.length=256):(convert 73 9 (.slice (some ⟨g,0,none⟩) 256 256)).run prog w=.ok (.string (ba l)) w:=by
 have:=run_convert_bytes_back (P:=prog) w 73 9 5 ⟨g,0,none⟩ 256 l underlying73 mV pC (by
  intro j hj;have:=h.c j ω;have e:(⟨g,0,none⟩:Addr).add j=⟨g,j,none⟩:=by unfold Addr.add;split<;>simp_all
  rw[e]
  simpa [hj] using this)
 rw[hl] at this;exact this
structure CI (w:World) (sb a:Nat) (W:World) (v vr:Value) (met:List W4) (f:Nat->Value):Prop where
 num:av 150 4 W (w.heap.size+1) w.heap.size v (met.map W4.v) 0
 ar:Nw W a 256 f
 rc:W.cell? ⟨sb,12,none⟩=some vr
 rf:dq 150 W w.heap.size vr met
 nv:∀ g,v.ownBlock=some g->w.heap.size+2<=g/\g≠a/\vr.ownBlock≠some g
 nr:∀ g,vr.ownBlock=some g->w.heap.size+2<=g/\g≠a
 al:w.heap.size+2<=a/\a<W.heap.size
 cs:∀ o,o≠12->W.cell? ⟨sb,o,none⟩=w.cell? ⟨sb,o,none⟩
 fz:∀ o,W.frozen? ⟨sb,o,none⟩=false
 ex:cd (λb=>b=sb) w W
 hs:sb<w.heap.size
section
variable {w:World}{sb a:Nat}{W W':World}{v vr:Value}{met:List W4}{f:Nat->Value}
def CI.foot (h:CI w sb a W v vr met f)  (hg:cZ (w.heap.size+1) w.heap.size v g):w.heap.size<=g/\g≠a/\vr.ownBlock≠some g:=by
 have h3:=h.al;rcases hg with rfl|rfl|hg
 .exact⟨ω,ω,λq=>by have:=(h.nr _ q).1;omega⟩
 .exact⟨ω,ω,λq=>by have:=(h.nr _ q).1;omega⟩
 .have:=h.nv g hg.symm;exact⟨ω,this.2.1,this.2.2⟩
def CI.keep (h:CI w sb a W v vr met f)  (hx:cd S W W') (h1:¬ S sb) (h2:∀ b,b<w.heap.size->¬ S b) (h3:∀ g,cZ (w.heap.size+1) w.heap.size v g->¬ S g) (h4:¬ S a) (h5:∀ g,vr.ownBlock=some g->¬ S g):CI w sb a W' v vr met f:=by
 have d:=h.ex.size;have hs:=h.hs;have es:=hx.block sb ω h1;refine⟨h.num.exc hx h3,h.ar.of_block (hx.block a h.al.2 h4),?_,h.rf.blk (λb hb=>hx.block b (h.rf.lt hb).2 (h5 b hb)),h.nv,h.nr,⟨h.al.1,Zd h.al.2 hx.size⟩,λo ho=>?_,λo=>?_,?_,hs⟩
 .rw[<-h.rc];simp[cell?,es]
 .rw[<-h.cs o ho];simp[cell?,es]
 .rw[<-h.fz o];simp[frozen?,es]
 .exact⟨hx.os.trans h.ex.os,hx.tape.trans h.ex.tape,hx.output.trans h.ex.output,Zc d hx.size,λb hb hn=>(hx.block b ω (h2 b hb)).trans (h.ex.block b hb hn)⟩
def CI.below (h:CI w sb a W v vr met f) (hb:Below W.heap.size W W'):CI w sb a W' v vr met f:=
 h.keep (S:=λ_=>False) (cd.of_below _ hb) id (λ_ _=>id) (λ_ _=>id) id (λ_ _=>id)
def CI.of (h:CI w sb a W v vr met f) {met':List W4} (hn:av 150 4 W' (w.heap.size+1) w.heap.size v' (met'.map W4.v) 0) (hg:∀ g,v'.ownBlock=some g->v.ownBlock=some g\/W.heap.size<=g) (hx:cd (cZ (w.heap.size+1) w.heap.size v) W W') :
  (W'.heap[sb]?=W.heap[sb]?/\Nw W' a 256 f/\dq 150 W' w.heap.size vr met/\(∀ g,v'.ownBlock=some g->w.heap.size+2<=g/\g≠a/\vr.ownBlock≠some g)/\cd (λb=>b=sb) w W'/\a<W'.heap.size):=by
 have e:=h.ex.size;have hs:=h.hs;have d:=h.al;refine⟨hx.block sb ω (λq=>by have:=(h.foot q).1;omega),h.ar.of_block (hx.block a h.al.2 (λq=>(h.foot q).2.1 rfl)),h.rf.blk (λb hb=>hx.block b (h.rf.lt hb).2 (λq=>(h.foot q).2.2 hb)),λg hg'=>?_,?_,Zd d.2 hx.size⟩
 .rcases hg g hg' with q|q
  .exact h.nv g q
  .exact⟨ω,ω,λk=>by have:=(h.rf.lt k).2;omega⟩
 .exact⟨hx.os.trans h.ex.os,hx.tape.trans h.ex.tape,hx.output.trans h.ex.output,Zc e hx.size,λb hb hn=>(hx.block b ω (λq=>by have:=(h.foot q).1;omega)).trans (h.ex.block b hb hn)⟩
def CI.old (h:CI w sb a W v vr met f)  (hn:av 150 4 W' (w.heap.size+1) w.heap.size v' (met.map W4.v) 0) (hg:∀ g,v'.ownBlock=some g->v.ownBlock=some g\/W.heap.size<=g) (hx:cd (cZ (w.heap.size+1) w.heap.size v) W W'):CI w sb a W' v' vr met f:=by
 obtain⟨e1,e2,e3,e4,e5,e6⟩:=h.of hn hg hx;refine⟨hn,e2,?_,e3,e4,h.nr,⟨h.al.1,e6⟩,λo ho=>?_,λo=>?_,e5,h.hs⟩
 .rw[<-h.rc];simp[cell?,e1]
 .rw[<-h.cs o ho];simp[cell?,e1]
 .rw[<-h.fz o];simp[frozen?,e1]
theorem CI.set (h:CI w sb a W v vr met f) (k:Nat) (hk:k<256) (x:Value):CI w sb a (W.setCell ⟨a,k,none⟩ x) v vr met (λj=>if j=k then x else f j):=by
 have i:=h.ex.size;have hs:=h.hs;have d:=h.al;have hx:cd (λb=>b=a) W (W.setCell ⟨a,k,none⟩ x):=iN rfl;have e:sb≠a:=ω;have es:(W.setCell ⟨a,k,none⟩ x).heap[sb]?=W.heap[sb]?:=ah _ _ _ _ e;refine⟨h.num.exc hx (λg hg q=>(h.foot hg).2.1 q),h.ar.set k hk x,?_,h.rf.blk (λb hb=>hx.block b (h.rf.lt hb).2 (λq=>(h.nr b hb).2 q)),h.nv,h.nr,⟨d.1,by rw[cQ];exact d.2⟩,λo ho=>?_,λo=>?_,?_,hs⟩
 .rw[<-h.rc];simp[cell?,es]
 .rw[<-h.cs o ho];simp[cell?,es]
 .rw[<-h.fz o];simp[frozen?,es]
 .exact⟨h.ex.os,h.ex.tape,h.ex.output,by rw[cQ];exact i,λb hb hn=>(hx.block b ω ω).trans (h.ex.block b hb hn)⟩
def CI.new (h:CI w sb a W v vr met f) {x:W4} (hn:av 150 4 W' (w.heap.size+1) w.heap.size v' ((met++[x]).map W4.v) 0) (hg:∀ g,v'.ownBlock=some g->v.ownBlock=some g\/W.heap.size<=g) (hx:cd (cZ (w.heap.size+1) w.heap.size v) W W')
  (hwa:Below W'.heap.size W' wa) (ho:w4.ownsRow w.heap.size 150 4 (.slice (some ⟨g,0,none⟩) (met.length+1) k) (met.length+1) (met.flatMap W4.cs++x.cs)) (hH:wa.heap.size=H) (hl:g<w4.heap.size)
  (hc:(vr.ownBlock=some g/\wa.grownBy w4 (some g))\/(g=H/\wa.grownBy w4 none)) :
  CI w sb a (w4.setCell ⟨sb,12,none⟩ (.slice (some ⟨g,0,none⟩) (met.length+1) k)) v' (.slice (some ⟨g,0,none⟩) (met.length+1) k) (met++[x]) f/\w4.cell? ⟨sb,12,none⟩=some vr/\w4.frozen? ⟨sb,12,none⟩=false:=by
 obtain⟨e1,e2,e3,e4,e5,e6⟩:=h.of hn hg hx;have C:=h.ex.size;have hs:=h.hs;have D:=h.al;have A:=hx.size;have B:=hwa.size;have r:vr.ownBlock=some g\/W'.heap.size<=g:=by grind
 have m:g≠a/\w.heap.size+2<=g:=by
  rcases r with q|q
  .exact⟨(h.nr g q).2,(h.nr g q).1⟩
  .omega
 have e:∀ b,b<W'.heap.size->vr.ownBlock≠some b->w4.heap[b]?=W'.heap[b]?:=λb hb hne=>(ct hH hc ω hne).trans (hwa.block b hb)
 obtain⟨g1,g2,g3,g4⟩:=gk hc;have y:vr.ownBlock≠some sb:=λq=>by have:=(h.rf.lt q).1;omega
 have i:=(e sb ω y).trans e1;have t:w4.cell? ⟨sb,12,none⟩=some vr:=by rw[<-h.rc];simp[cell?,i]
 have kf:∀ o,w4.frozen? ⟨sb,o,none⟩=false:=λo=>by rw[<-h.fz o];simp[frozen?,i]
 have d:∀ b,cZ (w.heap.size+1) w.heap.size v' b->b<W'.heap.size:=λb hb=>hn.lt hb
 have u:∀ b,cZ (w.heap.size+1) w.heap.size v' b->w.heap.size<=b/\vr.ownBlock≠some b:=λb hb=>by
  rcases hb with rfl|rfl|hb
  .exact⟨ω,λq=>by have:=(h.nr _ q).1;omega⟩
  .exact⟨ω,λq=>by have:=(h.nr _ q).1;omega⟩
  .grind
 refine⟨⟨?_,?_,?_,?_,?_,?_,?_,?_,?_,?_,hs⟩,t,kf 12⟩
 .refine hn.keep (λb hb=>?_);rw[ah _ _ _ _ (η ((u b hb).1))];exact e b (d b hb) (u b hb).2
 .refine e2.of_block ?_;rw[ah _ _ _ _ ω];exact e a e6 (λq=>(h.nr a q).2 rfl)
 .exact cell?_setCell_same' _ _ _ (by rw[t];rfl)
 .have:dq 150 w4 w.heap.size (.slice (some ⟨g,0,none⟩) (met.length+1) k) (met++[x]):=by
   unfold dq
   simpa using ho
  exact this.blk (λb hb=>ah _ _ _ _ (by simp[Value.ownBlock] at hb;omega))
 .intro b hb;refine⟨(e4 b hb).1,(e4 b hb).2.1,λq=>?_⟩;simp[Value.ownBlock] at q;subst q;rcases r with q'|q'
  .simp_all
  .have:=d _ (.inr (.inr hb.symm));omega
 .intro b hb;simp[Value.ownBlock] at hb;subst hb;exact⟨m.2,m.1⟩
 .grind [cQ]
 .intro o s;have:(w4.setCell ⟨sb,12,none⟩ (.slice (some ⟨g,0,none⟩) (met.length+1) k)).cell? ⟨sb,o,none⟩=w4.cell? ⟨sb,o,none⟩:=by simp[go_sem,s]
  rw[this,<-h.cs o s];simp[cell?,i]
 .simp_all
 .refine⟨g1.trans (hwa.os.trans e5.os),g2.trans (hwa.tape.trans e5.tape),g3.trans (hwa.output.trans e5.output),by rw[cQ];omega,λb hb hne=>?_⟩;rw[ah _ _ _ _ hne];exact(e b ω (λq=>by have:=(h.rf.lt q).1;omega)).trans (e5.block b hb hne)
end
open Go.RowKit
variable (bs k) in
def KG (h:k<(eS bs).length):(eS bs)[k]=nu k bs 0 W4.none:=by grind [eS]
variable (bs) in
def IW:(eS bs).length=256:=by simp[eS]
def KH (hl:bs.length<=64):∀ x∈eS bs,Sp bs.length x:=by grind [eS,vC,W4.none,Sp.none]
def AA (rds:List W4) (k:Nat) (j:Nat):Value:=if j<k then .int .u8 ((((ai [] rds).idxOf (rds[j]?.getD W4.none):Nat)):Int) else .int .u8 0
def xP (w:World) (sb base:Nat) (vb:Value) (bs:List (Nat->Bool)) (hl:bs.length<=64) (hc:w.cell? ⟨sb,0,none⟩=some vb) (h:lP w base vb bs) (hsb:sb<base) (hr:w.cell? ⟨sb,12,none⟩=some (.slice none 0 0)) (hf:∀ o,w.frozen? ⟨sb,o,none⟩=false) :
  Calls prog 74 #[.pointer (some ⟨sb,0,none⟩)] w λe w'=>e=.returned (.string (ba ((eS bs).map λx=>UInt8.ofNat ((ai [] (eS bs)).idxOf x))))/\∃ vr,w'.cell? ⟨sb,12,none⟩=some vr/\dq 150 w' w.heap.size vr (ai [] (eS bs))/\(∀ o,o≠12->w'.cell? ⟨sb,o,none⟩=w.cell? ⟨sb,o,none⟩)/\(∀ o,w'.frozen? ⟨sb,o,none⟩=false)/\cd (λb=>b=sb) w w':=by
 have a8:=KG bs;have a6:=IW bs;have M:=KH hl;obtain⟨d,a9⟩:=zx (eS bs);rw[<-a9] at a8 a6 M ⊢;clear a9;have c7:=aF hc;have d3:∀ g,vb.ownBlock=some g->g≠sb/\g<w.heap.size:=λg hg=>⟨by have:=(h.lt hg).1;omega,(h.lt hg).2⟩
 have d0:Hid (∀ w1,av 150 4 w1 (w.heap.size+1) w.heap.size (.slice none 0 0) [] 0->Below w.heap.size w w1->CI w sb w1.heap.size (w1.alloc (.cells oU 160)) (.slice none 0 0) (.slice none 0 0) [] (λ_=>.int .u8 0)):=λw1 hn hb=>by
  have g9:=hn.lt (.inl rfl);have G:Below w1.heap.size w1 (w1.alloc (.cells oU 160)):=ZA;have c8:=hb.trans (G.mono hb.size);have es:=c8.block sb c7;refine⟨hn.keep (λb hb'=>G.block b (hn.lt hb')),JO _ _,?_,Zn _ _ _ _,λg hg=>by simp[Value.ownBlock] at hg,λg hg=>by simp[Value.ownBlock] at hg,⟨ω,χ⟩,λo _=>by simp[cell?,es],λo=>?_,cd.of_below _ c8,c7⟩
  .rw[<-hr];simp[cell?,es]
  .rw[<-hf o];simp[frozen?,es]
 have b1:=Dh w;have g1:=zh h;have HC:=zh hc;clear h hc hr hf
 go_enter func74,ntmps74
 go_wp2_with (first|(refine jV rfl rfl _ rfl w1.heap.size rfl ?_;generalize b8:World.alloc w1 _=w2;have r:=d0 w1 f1 f6;rw[b8] at r;have c6:=zh r;have f7:=zh r.al.1;clear b8 r)|(go_at_call 126;refine b1.mono ?_;rintro e w1 ⟨rfl,b7,d7⟩;have f1:=zh b7;have f6:=zh d7;clear b7 d7))
 obtain⟨a,ha⟩:=zx w1.heap.size;rw[<-ha] at c6 f7 ⊢;clear ha b1;have d6:Hid ((ai [] d).length<=256):=by have:=c_ [] d;rw[a6] at this;show _<=_;simpa using this
 go_loopw [9] (λi wr=>∃(k:Nat) (v vr:Value),k<=256/\i=.int .i64 k/\CI w sb a wr v vr (ai [] (d.take k)) (AA d k)) (λi _=>256-(intOf i).toNat)
 case atStart=>exact⟨0,_,_,ω,rfl,c6⟩
 case round=>
  obtain⟨k,v,vr,hk,rfl,r⟩:=hrel;have P:=zh r
  by_cases hlt:k<256
  .have g6:(k:Int)<256:=ω;have J:k<d.length:=by rw[a6];exact hlt
   have c9:=(r.cs 0 ω).trans HC;have b5:=g1.blk (λb hb=>r.ex.block b (d3 b hb).2 (d3 b hb).1);have Z:=sK wr sb base vb bs k hlt hl c9 b5;rw[<-a8 k J] at Z;have b3:d[k]∈d:=Zg _;have F:=(M _ b3).ok hl;have E:∀ y∈ai [] (d.take k),y.ok:=λy hy=>by
    have:y∈d:=mem_of_mem_take (by simpa using aH.1 hy);exact(M y this).ok hl
   have a5:(ai [] (d.take k)).Nodup:=bR χ _;have f2:(ai [] (d.take k)).length<=256:=by
    have:=c_ [] (d.take k);simp at this;omega
   have D:=zh (dG [] J);have t:=zh (qw [] J);have U:=Zd (fA b3) d6;have b4:Hid (∀ C:Nat,C=(ai [] d).idxOf d[k]->∀ j,j<256->(if j=k then(Value.int .u8 (C:Int)) else AA d k j)=AA d (k+1) j):=λC hC j hj=>by
    unfold AA
    by_cases e:j=k
    .subst e;rw[Zi rfl,Zi ω,Zj J,hC];rfl
    .rw[Zh e]
     by_cases e2:j<k
     .rw[Zi e2,Zi ω]
     .rw[Zh e2,Zh ω]
   obtain⟨R,hR⟩:=zx (d[k]);obtain⟨m,hm⟩:=zx (ai [] (d.take k));rw[<-hR] at Z F D t U b4;rw[<-hm] at E a5 f2 D t P;obtain⟨C,hC⟩:=zx ((ai [] d).idxOf R);rw[<-hC] at t U;have a7:=b4 C hC;have b0:=zh a7;clear r c9 b5 b3 hR hm J b4 a7 hC;have h4:(C:Int)<256:=ω;have u:∀ w3:World,Below w3.heap.size w3 (w3.alloc (.cells #[.int .u64 (R.x0:Int),.int .u64 (R.x1:Int),.int .u64 (R.x2:Int),.int .u64 (R.x3:Int)] 150)):=λw3=>ZA
   have c3:Hid (∀ w3,CI w sb a w3 v vr m (AA d k)->Calls prog 128 #[.pointer (some ⟨w.heap.size+1,0,none⟩),lW R.x0 R.x1 R.x2 R.x3] w3 λe w'=>e=.returned (.int .i64 (C:Int))/\∃ v',av 150 4 w' (w.heap.size+1) w.heap.size v' ((aq m R).map W4.v) 0/\(∀ g,v'.ownBlock=some g->v.ownBlock=some g\/w3.heap.size<=g)/\cd (cZ (w.heap.size+1) w.heap.size v) w3 w'):=λw3 hc3=>by
    rw[t.out];exact Fn w3 (w.heap.size+1) w.heap.size v m 0 R hc3.num E F ω a5
   simp only[W4.v] at Z;obtain⟨va,vc,b2⟩:=P.rf.form;have c0:=zh b2
   by_cases hmem:R∈m
   .have Y:Hid (aq m R=m):=by show _=_;rw[aq,Zi hmem]
    have g7:¬ C=m.length:=λq=>by
     rw[t.out] at q;exact jx.1 q hmem
    have g2:(((C:Int)==(m.length:Int)):Bool)=false:=σ;clear hmem E a5 F b2;go_wp2_with (first|(go_at_call 128;refine(c3 (w3.alloc (.cells #[.int .u64 (R.x0:Int),.int .u64 (R.x1:Int),.int .u64 (R.x2:Int),.int .u64 (R.x3:Int)] 150)) (s.below (u w3))).mono ?_;rintro e w4 ⟨rfl,v',B,I,A⟩;rw[Y.out] at B;have a3:=zh ((s.below (u w3)).old B I A);have a2:w4.cell? ⟨sb,12,none⟩=some (.slice va m.length vc):=(by rw[<-c0.out];exact a3.rc);have h1:=a3.ar.c k hlt;have g8:=a3.ar.fz;clear B I A)|(go_at_call 127;refine Z.mono ?_;rintro e w3 ⟨rfl,X⟩;have s:=zh (P.below X);clear X))
    go_roundw
    case rel=>exact⟨k+1,v',vr,ω,π,by
     have h5:=a3.set k hlt (.int .u8 (C:Int));rw[D.out,Y.out]
     exact⟨h5.num,h5.ar.congr b0,h5.rc,h5.rf,h5.nv,h5.nr,h5.al,h5.cs,h5.fz,h5.ex,h5.hs⟩⟩
    case measure=>simp[intOf]<;>omega
   .have Y:Hid (aq m R=m++[R]):=by show _=_;rw[aq,Zh hmem]
    have e1:C=m.length:=by rw[t.out];exact jx.2 hmem
    subst e1;subst b2;clear hmem E a5 F c0;have h2:(m.length:Int)<256:=ω;go_wp2_with (first|(go_at_call 128;refine(c3 (w3.alloc (.cells #[.int .u64 (R.x0:Int),.int .u64 (R.x1:Int),.int .u64 (R.x2:Int),.int .u64 (R.x3:Int)] 150)) (s.below (u w3))).mono ?_;rintro e w4 ⟨rfl,v',B,I,A⟩;rw[Y.out] at B;have g3:=A.size;have a4:=(s.below (u w3)).of B I A;have a2:w4.cell? ⟨sb,12,none⟩=some (.slice va m.length vc):=(by rw[<-s.out.rc];have e5:=a4.1;have e6:=(u w3).block sb (ξ s.hs s.ex.size);simp[cell?,e5,e6]);have d1:=(A.block _ χ (λq=>by have:=s.num.lt q;omega)).trans (Za w3 _);obtain⟨x0,x1,x2,x3⟩:=oN d1;have c1:Hid (∀ {wa w5:World}{g kk H:Nat},Below w4.heap.size w4 wa->w5.ownsRow w.heap.size 150 4 (.slice (some ⟨g,0,none⟩) (m.length+1) kk) (m.length+1) (m.flatMap W4.cs++R.cs)->wa.heap.size=H->g<w5.heap.size->(((Value.slice va m.length vc).ownBlock=some g/\wa.grownBy w5 (some g))\/(g=H/\wa.grownBy w5 none))->CI w sb a (w5.setCell ⟨sb,12,none⟩ (.slice (some ⟨g,0,none⟩) (m.length+1) kk)) v' (.slice (some ⟨g,0,none⟩) (m.length+1) kk) (m++[R]) (AA d k)/\w5.cell? ⟨sb,12,none⟩=some (.slice va m.length vc)/\w5.frozen? ⟨sb,12,none⟩=false):=(λhwa ho hH hl hc=>(s.below (u w3)).new B I A hwa ho hH hl hc);have f3:=zh a4.2.2.1;have g4:w.heap.size<=w4.heap.size:=a4.2.2.2.2.1.size;clear B I A a4 d1)|(go_at_call 127;refine Z.mono ?_;rintro e w3 ⟨rfl,X⟩;have s:=zh (P.below X);clear X))
    obtain⟨i0,f8,e4,g0,f5⟩:=info_parts Tryz.infoSp;have G:Below w4.heap.size w4 (w4.alloc (.cells #[.int .u64 (R.x0:Int),.int .u64 (R.x1:Int),.int .u64 (R.x2:Int),.int .u64 (R.x3:Int)] 150)):=ZA;have e9:=cell_below G a2;have d8:=new_ne w4 ⟨sb,12,none⟩ a2
    go_region_law (refine cy _ (by rfl) (.tmp 30) (.tmp 32) 144 (by rfl) w.heap.size 150 i0 _ 4 32 underlying144 f8 e4 g0 f5 (by rfl) Zr (.slice va m.length vc) m.length (m.flatMap W4.cs) (by rfl) (show ownsRow _ _ _ _ _ _ _ from Zm f3 _) ⟨w4.heap.size,0,none⟩ 1 1 R.cs (by rfl) (by rfl) (news_of_block (w:=w4.alloc (.cells #[.int .u64 (R.x0:Int),.int .u64 (R.x1:Int),.int .u64 (R.x2:Int),.int .u64 (R.x3:Int)] 150)) (Za w4 _)) (by simp[Value.oneCell',W4.cs]) ω Zs ω σ _ (by rfl) ?_;intro g5 k5 w5 b9 d5 f9;obtain⟨a1,e0,f0⟩:=c1 G.drew b9 rfl f9 d5;have HA:=zh a1;clear b9 d5 a1)
    all_goals (
     obtain⟨w6,b6⟩:=zx (w5.setCell ⟨sb,12,none⟩ (.slice (some ⟨g5,0,none⟩) (m.length+1) k5));have V:=HA;rw[<-b6] at V ⊢;have e3:=zh V;have h6:=V.ar.c k hlt;have h0:=V.ar.fz;clear b6 V HA a2 e9 d8 e0 f0 x0 x1 x2 x3 G;go_wp2
     go_roundw
     case rel=>exact⟨k+1,v',.slice (some ⟨g5,0,none⟩) (m.length+1) k5,ω,π,by
      have h5:=e3.set k hlt (.int .u8 (m.length:Int));rw[D.out,Y.out]
      exact⟨h5.num,h5.ar.congr b0,h5.rc,h5.rf,h5.nv,h5.nr,h5.al,h5.cs,h5.fz,h5.ex,h5.hs⟩⟩
     case measure=>simp[intOf]<;>omega)
  .have h3:¬(k:Int)<256:=ω;have e7:k=256:=ω;subst e7;have d2:(d.map λx=>UInt8.ofNat ((ai [] d).idxOf x)).length=256:=by simp[a6]
   have c2:Nw wr a 256 (λj=>.int .u8 ((((d.map λx=>UInt8.ofNat ((ai [] d).idxOf x)))[j]?.getD 0).toNat:Int)):=r.ar.congr (λj hj=>by
    have c4:j<d.length:=ω;have d4:=Zd (fA (Zg c4)) d6;unfold AA;rw[Zi hj,getElem?_map,Zj c4];simp only[Option.getD_some,Option.map_some]
    rw[UInt8.toNat_ofNat',mod_eq_of_lt d4])
   have f4:=B1 c2 d2;have d9:Hid (ai [] (d.take 256)=ai [] d):=by show _=_;rw[take_of_length_le ω]
   obtain⟨L,hL⟩:=zx (d.map λx=>UInt8.ofNat ((ai [] d).idxOf x));rw[<-hL] at f4;have HL:=zh hL;clear r c2 d2 hL;go_wp2
   go_ret
   have hf:=P;rw[d9.out] at hf;exact⟨by rw[<-HL.out];rfl,vr,hf.rc,hf.rf,hf.cs,hf.fz,hf.ex⟩
abbrev eN (n:Nat):Value:=.int .i64 (n:Int)
theorem az {e:TypeId} (h:w.ownsRow base e size v n xs) (hg:v.ownBlock=some g):∃ cs,w.heap[g]?=some (.cells cs e (0,0)):=by
 rcases h.2 with⟨rfl,_⟩|⟨g',i,d,rfl,_,h2,_⟩
 .simp[Value.ownBlock] at hg
 .simp[Value.ownBlock] at hg;subst hg;exact⟨d,h2⟩
theorem aU {g g':Nat}{e e':TypeId}{cs cs':Array Value}{f f':Nat×Nat} (h:w.heap[g]?=some (.cells cs e f)) (h':w.heap[g']?=some (.cells cs' e' f')) (hne:e≠e'):g≠g':=by grind
def jH (K:Nat) (g:Nat):Value:=.slice (some ⟨g,0,none⟩) K K
structure SI {α:Type} (T:TypeId) (z:Nat) (enc:α->Value) (w:World) (tb K:Nat) (W:World) (v va vn:Value) (met:List α) (tk:Nat) (acc:List Bool) (rows:List (List Nat)) (gs:List Nat):Prop where
 num:av T z W (w.heap.size+1) w.heap.size v (met.map enc) tk
 nv:∀ g,v.ownBlock=some g->w.heap.size+2<=g
 c4:W.cell? ⟨tb,4,none⟩=some va
 ar:W.ownsRow (w.heap.size+2) 4 1 va acc.length (acc.map eB)
 c5:W.cell? ⟨tb,5,none⟩=some vn
 nr:W.ownsRow (w.heap.size+2) 40 1 vn gs.length (gs.map (jH K))
 gl:gs.length=rows.length
 rw:∀ j (h1:j<gs.length) (h2:j<rows.length),W.heap[gs[j]]?=some (.cells (rows[j].map eN).toArray 3 (0,0))/\w.heap.size+2<=gs[j]/\rows[j].length=K
 cs:∀ o,o≠4->o≠5->W.cell? ⟨tb,o,none⟩=w.cell? ⟨tb,o,none⟩
 fz:∀ o,W.frozen? ⟨tb,o,none⟩=false
 ex:cd (λb=>b=tb) w W
 tl:tb<w.heap.size/\T≠4/\T≠40/\T≠3
def cH {e:TypeId} (h:w.ownsRow base e size v n xs) (hg:v.ownBlock=some g):base<=g:=by
 rcases h.2 with⟨rfl,_⟩|⟨g',i,d,rfl,hb,_⟩
 .simp[Value.ownBlock] at hg
 .simp[Value.ownBlock] at hg;omega
section
variable {α:Type}{T:TypeId}{z:Nat}{enc:α->Value}{w:World}{tb K:Nat}{W W':World}{v va vn:Value}{met:List α}{tk:Nat}{acc:List Bool}{rows:List (List Nat)}{gs:List Nat}
def Lv (w:World) (v va vn:Value) (gs:List Nat) (b:Nat):Prop:=b=w.heap.size+1\/b=w.heap.size\/v.ownBlock=some b\/va.ownBlock=some b\/vn.ownBlock=some b\/b∈gs
def SI.keep (h:SI T z enc w tb K W v va vn met tk acc rows gs)  (hx:cd S W W') (h1:¬ S tb) (h2:∀ b,b<w.heap.size->¬ S b) (h3:∀ b,Lv w v va vn gs b->¬ S b):SI T z enc w tb K W' v va vn met tk acc rows gs:=by
 have e:=h.ex.size;have d:=h.tl;have et:=hx.block tb ω h1;refine⟨h.num.exc hx (λb hb=>h3 b ?_),h.nv,?_,ak h.ar (λb hb=>hx.block b (de h.ar hb) (h3 b (.inr (.inr (.inr (.inl hb)))))),?_,ak h.nr (λb hb=>hx.block b (de h.nr hb) (h3 b (.inr (.inr (.inr (.inr (.inl hb))))))),h.gl,λj j1 j2=>?_,λo o1 o2=>?_,λo=>?_,?_,d⟩
 .rcases hb with rfl|rfl|hb
  .exact .inl rfl
  .exact .inr (.inl rfl)
  .exact .inr (.inr (.inl hb.symm))
 .rw[<-h.c4];simp[cell?,et]
 .rw[<-h.c5];simp[cell?,et]
 .have:=h.rw j j1 j2;exact⟨(hx.block _ (ZC this.1) (h3 _ (.inr (.inr (.inr (.inr (.inr (Zg _)))))))).trans this.1,this.2⟩
 .rw[<-h.cs o o1 o2];simp[cell?,et]
 .rw[<-h.fz o];simp[frozen?,et]
 .exact⟨hx.os.trans h.ex.os,hx.tape.trans h.ex.tape,hx.output.trans h.ex.output,Zc e hx.size,λb hb hn=>(hx.block b ω (h2 b hb)).trans (h.ex.block b hb hn)⟩
def SI.below (h:SI T z enc w tb K W v va vn met tk acc rows gs) (hb:Below W.heap.size W W'):SI T z enc w tb K W' v va vn met tk acc rows gs:=
 h.keep (S:=λ_=>False) (cd.of_below _ hb) id (λ_ _=>id) (λ_ _=>id)
def SI.footn (h:SI T z enc w tb K W v va vn met tk acc rows gs)  (hb:cZ (w.heap.size+1) w.heap.size v b):va.ownBlock≠some b/\vn.ownBlock≠some b/\b ∉ gs:=by
 have h0:∀ g,w.heap.size+2<=g->(b=w.heap.size+1\/b=w.heap.size)->g≠b:=λg h1 h2=>by omega
 rcases hb with hb|hb|hb
 .refine⟨λq=>h0 b (cH h.ar q) (.inl hb) rfl,λq=>h0 b (cH h.nr q) (.inl hb) rfl,λq=>?_⟩;obtain⟨j,hj,rfl⟩:=getElem_of_mem q;exact h0 _ (h.rw j hj (by rw[<-h.gl];exact hj)).2.1 (.inl hb) rfl
 .refine⟨λq=>h0 b (cH h.ar q) (.inr hb) rfl,λq=>h0 b (cH h.nr q) (.inr hb) rfl,λq=>?_⟩;obtain⟨j,hj,rfl⟩:=getElem_of_mem q;exact h0 _ (h.rw j hj (by rw[<-h.gl];exact hj)).2.1 (.inr hb) rfl
 .obtain⟨cs,e⟩:=az h.num.own hb.symm;refine⟨λq=>?_,λq=>?_,λq=>?_⟩
  .obtain⟨ds,d⟩:=az h.ar q;exact aU e d h.tl.2.1 rfl
  .obtain⟨ds,d⟩:=az h.nr q;exact aU e d h.tl.2.2.1 rfl
  .obtain⟨j,hj,rfl⟩:=getElem_of_mem q;exact aU e (h.rw j hj (by rw[<-h.gl];exact hj)).1 h.tl.2.2.2 rfl
def SI.of (h:SI T z enc w tb K W v va vn met tk acc rows gs) {met':List α}{tk':Nat} (hn:av T z W' (w.heap.size+1) w.heap.size v' (met'.map enc) tk') (hg:∀ g,v'.ownBlock=some g->v.ownBlock=some g\/W.heap.size<=g) (hx:cd (cZ (w.heap.size+1) w.heap.size v) W W'):SI T z enc w tb K W' v' va vn met' tk' acc rows gs:=by
 have i:=h.ex.size;have e:=h.tl;have m:=h.num.lt (.inl rfl);have d:∀ {b},cZ (w.heap.size+1) w.heap.size v b->w.heap.size<=b:=λ{b} hb=>by
  rcases hb with hb|hb|hb
  .omega
  .omega
  .have:=h.nv b hb.symm;omega
 have et:=hx.block tb ω (λq=>by have:=d q;omega);refine⟨hn,λg hg'=>?_,?_,ak h.ar (λb hb=>hx.block b (de h.ar hb) (λq=>(h.footn q).1 hb)),?_,ak h.nr (λb hb=>hx.block b (de h.nr hb) (λq=>(h.footn q).2.1 hb)),h.gl,λj j1 j2=>?_,λo o1 o2=>?_,λo=>?_,?_,e⟩
 .rcases hg g hg' with q|q
  .exact h.nv g q
  .omega
 .rw[<-h.c4];simp[cell?,et]
 .rw[<-h.c5];simp[cell?,et]
 .have:=h.rw j j1 j2;exact⟨(hx.block _ (ZC this.1) (λq=>(h.footn q).2.2 (Zg _))).trans this.1,this.2⟩
 .rw[<-h.cs o o1 o2];simp[cell?,et]
 .rw[<-h.fz o];simp[frozen?,et]
 .exact⟨hx.os.trans h.ex.os,hx.tape.trans h.ex.tape,hx.output.trans h.ex.output,Zc i hx.size,λb hb hn=>(hx.block b ω (λq=>by have:=d q;omega)).trans (h.ex.block b hb hn)⟩
def SI.acc1 (h:SI T z enc w tb K W v va vn met tk acc rows gs) {x:Bool} (hwa:Below W.heap.size W wa) (ho:w4.ownsRow (w.heap.size+2) 4 1 (.slice (some ⟨g,0,none⟩) (acc.length+1) k) (acc.length+1) (acc.map eB++[eB x])) (hH:wa.heap.size=H)
  (hc:(va.ownBlock=some g/\wa.grownBy w4 (some g))\/(g=H/\wa.grownBy w4 none)) :
  SI T z enc w tb K (w4.setCell ⟨tb,4,none⟩ (.slice (some ⟨g,0,none⟩) (acc.length+1) k)) v (.slice (some ⟨g,0,none⟩) (acc.length+1) k) vn met tk (acc++[x]) rows gs/\w4.cell? ⟨tb,4,none⟩=some va/\w4.frozen? ⟨tb,4,none⟩=false:=by
 have u:=h.ex.size;have m:=h.tl;have s:=hwa.size;have d:∀ b,b<W.heap.size->va.ownBlock≠some b->w4.heap[b]?=W.heap[b]?:=λb hb hne=>(ct hH hc ω hne).trans (hwa.block b hb)
 obtain⟨g1,g2,g3,g4⟩:=gk hc;have i:va.ownBlock≠some tb:=λq=>by have:=cH h.ar q;omega
 have et:=d tb ω i;have k4:w4.cell? ⟨tb,4,none⟩=some va:=by rw[<-h.c4];simp[cell?,et]
 have k5:w4.cell? ⟨tb,5,none⟩=some vn:=by rw[<-h.c5];simp[cell?,et]
 have kf:∀ o,w4.frozen? ⟨tb,o,none⟩=false:=λo=>by rw[<-h.fz o];simp[frozen?,et]
 have y:=cH ho (g:=g) rfl;have nb:∀ b,vn.ownBlock=some b->va.ownBlock≠some b:=λb hb q=>by
  obtain⟨cs,r⟩:=az h.nr hb;obtain⟨ds,e⟩:=az h.ar q;exact aU r e Zr rfl
 have gb:∀ b,b∈gs->va.ownBlock≠some b:=λb hb q=>by
  obtain⟨ds,e⟩:=az h.ar q;obtain⟨j,hj,rfl⟩:=getElem_of_mem hb;exact aU e (h.rw j hj (by rw[<-h.gl];exact hj)).1 Zr rfl
 refine⟨⟨?_,h.nv,?_,?_,?_,?_,h.gl,λj j1 j2=>?_,λo o1 o2=>?_,λo=>?_,?_,m⟩,k4,kf 4⟩
 .refine h.num.keep (λb hb=>?_);have t:w.heap.size<=b:=by
   rcases hb with hb|hb|hb
   .omega
   .omega
   .have:=h.nv b hb.symm;omega
  rw[ah _ _ _ _ ω];exact d b (h.num.lt hb) (λq=>(h.footn hb).1 q)
 .exact cell?_setCell_same' _ _ _ (by rw[k4];rfl)
 .have:w4.ownsRow (w.heap.size+2) 4 1 (.slice (some ⟨g,0,none⟩) (acc.length+1) k) (acc++[x]).length ((acc++[x]).map eB):=by simpa using ho
  exact ak this (λb hb=>ah _ _ _ _ (by simp[Value.ownBlock] at hb;omega))
 .simp[go_sem,k5]
 .exact ak h.nr (λb hb=>(ah _ _ _ _ (η (cH h.nr hb))).trans (d b (de h.nr hb) (nb b hb)))
 .have:=h.rw j j1 j2;refine⟨?_,this.2⟩;rw[ah _ _ _ _ ω];exact(d _ (ZC this.1) (gb _ (Zg _))).trans this.1
 .have:(w4.setCell ⟨tb,4,none⟩ (.slice (some ⟨g,0,none⟩) (acc.length+1) k)).cell? ⟨tb,o,none⟩=w4.cell? ⟨tb,o,none⟩:=by simp[go_sem,o1]
  rw[this,<-h.cs o o1 o2];simp[cell?,et]
 .simp_all
 .refine⟨g1.trans (hwa.os.trans h.ex.os),g2.trans (hwa.tape.trans h.ex.tape),g3.trans (hwa.output.trans h.ex.output),by rw[cQ];omega,λb hb hne=>?_⟩;rw[ah _ _ _ _ hne];exact(d b ω (λq=>by have:=cH h.ar q;omega)).trans (h.ex.block b hb hne)
def SI.row1 (h:SI T z enc w tb K W v va vn met tk acc rows gs) {r:List Nat}{q g k H:Nat} (hr:W.heap[q]?=some (.cells (r.map eN).toArray 3 (0,0))) (hq:w.heap.size+2<=q) (hrl:r.length=K) (hwa:Below W.heap.size W wa) (ho:w4.ownsRow (w.heap.size+2) 40 1 (.slice (some ⟨g,0,none⟩) (gs.length+1) k) (gs.length+1) (gs.map (jH K)++[jH K q])) (hH:wa.heap.size=H)
  (hc:(vn.ownBlock=some g/\wa.grownBy w4 (some g))\/(g=H/\wa.grownBy w4 none)) :
  SI T z enc w tb K (w4.setCell ⟨tb,5,none⟩ (.slice (some ⟨g,0,none⟩) (gs.length+1) k)) v va (.slice (some ⟨g,0,none⟩) (gs.length+1) k) met tk acc (rows++[r]) (gs++[q])/\w4.cell? ⟨tb,5,none⟩=some vn/\w4.frozen? ⟨tb,5,none⟩=false:=by
 have D:=h.ex.size;have u:=h.tl;have C:=hwa.size;have d:∀ b,b<W.heap.size->vn.ownBlock≠some b->w4.heap[b]?=W.heap[b]?:=λb hb hne=>(ct hH hc ω hne).trans (hwa.block b hb)
 obtain⟨g1,g2,g3,g4⟩:=gk hc;have t:vn.ownBlock≠some tb:=λq=>by have:=cH h.nr q;omega
 have et:=d tb ω t;have k4:w4.cell? ⟨tb,4,none⟩=some va:=by rw[<-h.c4];simp[cell?,et]
 have k5:w4.cell? ⟨tb,5,none⟩=some vn:=by rw[<-h.c5];simp[cell?,et]
 have kf:∀ o,w4.frozen? ⟨tb,o,none⟩=false:=λo=>by rw[<-h.fz o];simp[frozen?,et]
 have E:=cH ho (g:=g) rfl;have nb:∀ b,va.ownBlock=some b->vn.ownBlock≠some b:=λb hb q=>by
  obtain⟨cs,B⟩:=az h.ar hb;obtain⟨ds,i⟩:=az h.nr q;exact aU B i Zr rfl
 have y:∀ b cs,W.heap[b]?=some (.cells cs 3 (0,0))->vn.ownBlock≠some b:=λb cs hb q=>by
  obtain⟨ds,i⟩:=az h.nr q;exact aU i hb Zr rfl
 refine⟨⟨?_,h.nv,?_,?_,?_,?_,by simp[h.gl],λj j1 j2=>?_,λo o1 o2=>?_,λo=>?_,?_,u⟩,k5,kf 5⟩
 .refine h.num.keep (λb hb=>?_);have s:w.heap.size<=b:=by
   rcases hb with hb|hb|hb
   .omega
   .omega
   .have:=h.nv b hb.symm;omega
  rw[ah _ _ _ _ ω];exact d b (h.num.lt hb) (λq=>(h.footn hb).2.1 q)
 .simp[go_sem,k4]
 .exact ak h.ar (λb hb=>(ah _ _ _ _ (η (cH h.ar hb))).trans (d b (de h.ar hb) (nb b hb)))
 .exact cell?_setCell_same' _ _ _ (by rw[k5];rfl)
 .have:w4.ownsRow (w.heap.size+2) 40 1 (.slice (some ⟨g,0,none⟩) (gs.length+1) k) (gs++[q]).length ((gs++[q]).map (jH K)):=by simpa using ho
  exact ak this (λb hb=>ah _ _ _ _ (by simp[Value.ownBlock] at hb;omega))
 .have e:∀ b cs,W.heap[b]?=some (.cells cs 3 (0,0))->w.heap.size+2<=b->(w4.setCell ⟨tb,5,none⟩ (.slice (some ⟨g,0,none⟩) (gs.length+1) k)).heap[b]?=some (.cells cs 3 (0,0)):=λb cs hb s=>by
   rw[ah _ _ _ _ ω];exact(d b (ZC hb) (y b cs hb)).trans hb
  rcases Nat.lt_or_ge j gs.length with hj|hj
  .have m:j<rows.length:=by rw[<-h.gl];exact hj
   have:=h.rw j hj m;rw[Zp hj,Zp m];exact⟨e _ _ this.1 this.2.1,this.2⟩
  .have A:j=gs.length:=by simp at j1;omega
   subst A;simp only[getElem_append_right zq,Nat.sub_self,getElem_cons_zero];have hx:(rows++[r])[gs.length]'j2=r:=by
    rw[getElem_append_right (by rw[h.gl];exact zq)];simp[h.gl]
   rw[hx];exact⟨e _ _ hr hq,hq,hrl⟩
 .have:(w4.setCell ⟨tb,5,none⟩ (.slice (some ⟨g,0,none⟩) (gs.length+1) k)).cell? ⟨tb,o,none⟩=w4.cell? ⟨tb,o,none⟩:=by simp[go_sem,o2]
  rw[this,<-h.cs o o1 o2];simp[cell?,et]
 .simp_all
 .refine⟨g1.trans (hwa.os.trans h.ex.os),g2.trans (hwa.tape.trans h.ex.tape),g3.trans (hwa.output.trans h.ex.output),by rw[cQ];omega,λb hb hne=>?_⟩;rw[ah _ _ _ _ hne];exact(d b ω (λq=>by have:=cH h.nr q;omega)).trans (h.ex.block b hb hne)
end
abbrev SS:=@SI fZ 244 5 fZ.v
open Go.RowKit
open Sx (bL)
def MB (sp:Nat) (vs vf:Value) (us:List Value) (b:Nat):Prop:=b=sp\/vs.ownBlock=some b\/vf.ownBlock=some b\/∃ u∈us,u.ownBlock=some b
structure im (lo:Nat) (w:World) (sp:Nat) (x:Rx) (vs vf:Value) (us:List Value):Prop where
 h:w.heap[sp]?=some (.cells #[vs,vf] 106)
 ls:lo<=sp
 s:w.ownsRow lo 184 256 vs x.sets.length (x.sets.flatMap bL)
 f:w.ownsRow lo 40 1 vf x.fol.length us
 u:∀ i (hi:i<us.length),IL lo w us[i] (x.fol.getD i [])
 d:∀ i j (hi:i<us.length) (hj:j<us.length) b,us[i].ownBlock=some b->us[j].ownBlock=some b->i=j
structure Fx (lo:Nat) (w w':World) (O O':Nat->Prop):Prop where
 bl:Below lo w w'
 kp:∀ b,b<w.heap.size->¬ O b->w'.heap[b]?=w.heap[b]?
 nw:∀ b,O' b->O b\/w.heap.size<=b
variable (lo w O) in
theorem Fx.refl:Fx lo w w O O:=⟨ZB,λ_ _ _=>rfl,λ_ h=>.inl h⟩
theorem Fx.trans {a b c:World}{O P Q:Nat->Prop} (h:Fx lo a b O P) (g:Fx lo b c P Q):Fx lo a c O Q:=by
 refine⟨h.bl.trans g.bl,λk hk hO=>?_,λk hk=>?_⟩
 .have hs:=h.bl.size;refine(g.kp k ω (λhP=>?_)).trans (h.kp k hk hO);rcases h.nw k hP with q|q
  .exact hO q
  .omega
 .rcases g.nw k hk with q|q
  .exact h.nw k q
  .have:=h.bl.size;exact .inr ω
theorem IL.lt (h:IL lo w v l)  (e:v.ownBlock=some b):lo<=b/\b<w.heap.size:=h.o.lt b e
def IL.frame {O O':Nat->Prop} (h:IL lo w v l) (hO:∀ b,v.ownBlock=some b->¬ O b) (f:Fx lo w w' O O'):IL lo w' v l/\∀ b,v.ownBlock=some b->¬ O' b:=
 ⟨h.keep (λb e=>f.kp b (h.lt e).2 (hO b e)),λb e q=>by
  rcases f.nw b q with q|q
  .exact hO b e q
  .have:=(h.lt e).2;omega⟩
theorem im.ul (h:im lo w sp x vs vf us):us.length=x.fol.length:=by have:=h.f.1;omega
def im.grow (h:im lo w sp x vs vf us) (hlo:lo<=w.heap.size)  (hj:j<us.length) {k:List Nat} (hv:IL lo w' v' (x.fol.getD j []++k))
  (hg:(v'.ownBlock=us[j].ownBlock/\w.grownBy w' us[j].ownBlock)\/(v'.ownBlock=some w.heap.size/\w.grownBy w' none)) :
  ∃ F m,vf=.slice (some ⟨F,0,none⟩) x.fol.length m/\x.fol.length<=m/\F<w.heap.size/\w.cell? ⟨sp,1,none⟩=some vf/\w.cell? ⟨F,j,none⟩=some us[j]/\w'.cell? ⟨sp,1,none⟩=some vf/\w'.cell? ⟨F,j,none⟩=some us[j]/\w'.frozen? ⟨F,j,none⟩=false/\(∀ b,b<w.heap.size->¬ MB sp vs vf us b->w'.heap[b]?=w.heap[b]?) /\
   im lo (w'.setCell ⟨F,j,none⟩ v') sp ⟨x.sets,x.fol.modify j (·++k)⟩ vs vf (us.set j v')/\Fx lo w (w'.setCell ⟨F,j,none⟩ v') (MB sp vs vf us) (MB sp vs vf (us.set j v')):=by
 have a1:=h.ul;have A:=Zg hj;obtain⟨F,m,t,G,hF,s,Y,Z,a2,U⟩:∃ F m t,vf=.slice (some ⟨F,0,none⟩) x.fol.length m/\lo<=F/\w.heap[F]?=some (.cells t 40 (0,0))/\x.fol.length<=m/\m<=maxLen/\t.size=m*1/\t.toList.take (x.fol.length*1)=us:=by
  rcases h.f.2 with⟨h1,h2⟩|q
  .omega
  .exact q
 have E:vf.ownBlock=some F:=by rw[G];rfl
 have L:=(h.f.lt F E).2;have M:=(ZC h.h)
 have d:∀ b,b<w.heap.size->us[j].ownBlock≠some b->w'.heap[b]?=w.heap[b]?:=λb hb hne=>by
  rcases hg with⟨-,g⟩|⟨-,g⟩
  .exact g.block b hb (λe=>hne e.symm)
  .exact g.block b hb (λe=>by cases e)
 have C:∀ b,us[j].ownBlock=some b->∃ cs,w.heap[b]?=some (.cells cs 3 (0,0)):=λb e=>az (h.u j hj).o e
 have y:w'.heap[sp]?=w.heap[sp]?:=d sp M (λe=>by
  obtain⟨cs,q⟩:=C sp e
  exact aU h.h q Zr rfl)
 have B:w'.heap[F]?=w.heap[F]?:=d F L (λe=>by
  obtain⟨cs,q⟩:=C F e
  exact aU s q Zr rfl)
 have X:=aU s h.h Zr;have hB:Below lo w w':=by
  rcases hg with⟨-,g⟩|⟨-,g⟩
  .exact dQ g (λb e=>((h.u j hj).lt e).1) hlo
  .exact dQ g (λb e=>by cases e) hlo
 have J:w.cell? ⟨F,j,none⟩=some us[j]:=by
  have h3:t.toList[j]?=some us[j]:=by
   have h4:(t.toList.take (x.fol.length*1))[j]?=some us[j]:=by rw[U];exact Zj hj
   rwa [getElem?_take_of_lt ω] at h4
  simp[cell?,s]
  simpa using h3
 have D:w.cell? ⟨sp,1,none⟩=some vf:=by simp[cell?,h.h]
 have V:∀ b,v'.ownBlock=some b->b≠F/\b≠sp/\vs.ownBlock≠some b:=λb e=>by
  obtain⟨cs,q⟩:=az hv.o e;refine⟨λe2=>aU q (B.trans s) Zr e2,λe2=>aU q (y.trans h.h) Zr e2,λe2=>?_⟩;obtain⟨P,q2⟩:=az h.s e2;rcases hg with⟨g1,-⟩|⟨g1,-⟩
  .rw[e] at g1;obtain⟨a3,q3⟩:=C b g1.symm;exact aU q2 q3 Zr rfl
  .rw[e] at g1;injection g1 with g1;have:=(h.s.lt b e2).2;omega
 have r:∀ b,b≠F->(w'.setCell ⟨F,j,none⟩ v').heap[b]?=w'.heap[b]?:=λb hb=>ah _ _ _ _ hb
 have R:∀ b,vs.ownBlock=some b->(w'.setCell ⟨F,j,none⟩ v').heap[b]?=w.heap[b]?:=λb e=>by
  obtain⟨cs,q⟩:=az h.s e;rw[r b (aU q s Zr)]
  exact d b (h.s.lt b e).2 (λe2=>by
   obtain⟨P,q2⟩:=C b e2
   exact aU q q2 Zr rfl)
 have I:w'.ownsRow lo 40 1 vf x.fol.length us:=ak h.f (λb e=>by
  rw[E] at e;injection e with e;subst e;exact B)
 refine⟨F,m,G,Y,L,D,J,?_,?_,?_,λb hb hO=>d b hb (λe=>hO (.inr (.inr (.inr ⟨_,A,e⟩)))),?_,?_⟩
 .exact(cell_of_block y 1).trans D
 .exact(cell_of_block B j).trans J
 .simp[frozen?,B.trans s]
 .refine⟨?_,h.ls,ak h.s R,?_,λi hi=>?_,λi i' hi hi' b e e'=>?_⟩
  .rw[r sp (Ne.symm X),y];exact h.h
  .rw[G] at I ⊢;have:=(ownsRow.stored I j v').1
   simpa using this
  .rw[length_set] at hi
   by_cases e:i=j
   .subst e;rw[getElem_set_self,jk,Zi ⟨rfl,ω⟩];exact hv.keep (λb e=>r b (V b e).1)
   .rw[getElem_set_ne (Ne.symm e),jk,Zh (λq=>e q.1.symm)];refine(h.u i hi).keep (λb eb=>?_);have hb:=((h.u i hi).lt eb).2;obtain⟨cs,q⟩:=az (h.u i hi).o eb;rw[r b (aU q s Zr)];exact d b hb (λe2=>e (h.d i j hi hj b eb e2))
  .rw[length_set] at hi hi';have key:∀(a:Nat) (ha:a<us.length),a≠j->v'.ownBlock=some b->us[a].ownBlock=some b->False:=λa ha ne e1 e2=>by
    rcases hg with⟨g1,-⟩|⟨g1,-⟩
    .exact ne (h.d a j ha hj b e2 (by rw[<-g1];exact e1))
    .rw[g1] at e1;injection e1 with e1;have:=((h.u a ha).lt e2).2;omega
   by_cases c1:i=j<;>by_cases c2:i'=j
   .omega
   .subst c1;rw[getElem_set_self] at e;rw[getElem_set_ne (Ne.symm c2)] at e';exact(key i' (by simpa using hi') c2 e e').elim
   .subst c2;rw[getElem_set_self] at e';rw[getElem_set_ne (Ne.symm c1)] at e;exact(key i (by simpa using hi) c1 e' e).elim
   .rw[getElem_set_ne (Ne.symm c1)] at e;rw[getElem_set_ne (Ne.symm c2)] at e';exact h.d i i' hi hi' b e e'
 .refine⟨hB.setCell hF _,λb hb hO=>?_,λb hO=>?_⟩
  .rw[r b (λe=>hO (by subst e;exact .inr (.inr (.inl E))))];exact d b hb (λe=>hO (.inr (.inr (.inr ⟨_,A,e⟩))))
  .rcases hO with q|q|q|⟨u,hu,q⟩
   .exact .inl (.inl q)
   .exact .inl (.inr (.inl q))
   .exact .inl (.inr (.inr (.inl q)))
   .rcases mem_or_eq_of_mem_set hu with hu|rfl
    .exact .inl (.inr (.inr (.inr ⟨u,hu,q⟩)))
    .rcases hg with⟨g1,-⟩|⟨g1,-⟩
     .exact .inl (.inr (.inr (.inr ⟨_,A,by rw[<-g1];exact q⟩)))
     .rw[g1] at q;injection q with q;exact .inr ω
def rm {K:Act->World->Prop}{E:Prop}
  (hg:o.guard=none) (s x:Operand) (hop:o.op=Op.call {callee:=Callee.builtin Builtin.append,args:=#[s,x],argTypes:=#[40,40]}) {v u:Value}{l k:List Nat} (hv:a.eval s=v) (hu:a.eval x=u) (h:IL lo w v l) (g:IL lo w u k) (hlo:lo<=w.heap.size) (hs:l.length+k.length<=1000000000)
  (hK:∀ v' w',IL lo w' v' (l++k)->((v'.ownBlock=v.ownBlock/\w.grownBy w' v.ownBlock)\/(v'.ownBlock=some w.heap.size/\w.grownBy w' none))->K (a.put o.dst v') w') :
  if Region.wanted o (yielded ops a.tmps)=true then Oper.wp prog o a w K Q else E:=by
 have hw:Region.wanted o (yielded ops a.tmps)=true:=by simp[Region.wanted,hg]
 rw[Zi hw];obtain⟨v',w',hr,h2,h3⟩:=tR h g hlo hs o.type;unfold Oper.wp;simp[execOp,hop,resolve,invoke,builtin,hv,hu,hr,Result.andThen];exact hK v' w' h2 h3
def IL.shape (h:IL lo w v l):∃ a n c,v=.slice a n c:=by
 rcases h.o.2 with⟨h1,_⟩|⟨g,e,d,hv,_⟩
 .exact⟨_,_,_,h1⟩
 .exact⟨_,_,_,hv⟩
theorem IL.heap (h:IL lo w v l) (e:w'.heap=w.heap):IL lo w' v l:=h.keep (λb _=>by rw[e])
theorem im.heap (h:im lo w sp x vs vf us) (e:w'.heap=w.heap):im lo w' sp x vs vf us:=
 ⟨by rw[e];exact h.h,h.ls,ak h.s (λb _=>by rw[e]),ak h.f (λb _=>by rw[e]),λi hi=>(h.u i hi).heap e,h.d⟩
theorem rp (b:List Nat):∀(a:List Nat) (fol:List (List Nat)) (i:Nat),((ig fol a b).getD i []).length<=(fol.getD i []).length+a.length*b.length
 |[],fol,i=>by simp[ig]
 |k::a,fol,i=>by
  have:=rp b a (fol.modify k (·++b)) i;unfold ig at this ⊢;rw[foldl_cons];rw[jk] at this;simp only[length_cons,succ_mul]
  split at this
  .simp only[length_append] at this;omega
  .omega
def DK (fol:List (List Nat)) (a b:List Nat) (j:Nat) (hj:j<a.length):ig fol (a.take (j+1)) b=(ig fol (a.take j) b).modify a[j] (·++b):=by
 unfold ig;rw[Zl hj,foldl_append];rfl
def Gl {w wr:World}{us us':List Value}{a:Value} (hsx:im lo wr sp ⟨x.sets,ig x.fol (la.take j) lb⟩ vs vf us') (hfx:Fx lo w wr (MB sp vs vf us) (MB sp vs vf us')) (hlo:lo<=w.heap.size) (ha:IL lo wr a la) (hma:∀ c,a.ownBlock=some c->¬ MB sp vs vf us' c) (hjl:j<la.length) (hq:la[j]<x.fol.length) :
  ∃ q uq R F cF ga ca,a=.slice (some ⟨ga,0,none⟩) la.length ca/\q<x.fol.length/\IL lo wr uq R/\R.length<=(x.fol.getD la[j] []).length+la.length*lb.length/\wr.cell? ⟨ga,j,none⟩=some (.int .i64 (q:Nat))/\wr.cell? ⟨sp,1,none⟩=some (.slice (some ⟨F,0,none⟩) x.fol.length cF)/\wr.cell? ⟨F,q,none⟩=some uq/\wr.frozen? ⟨F,q,none⟩=false /\
   ∀ v' w',IL lo w' v' (R++lb)->((v'.ownBlock=uq.ownBlock/\wr.drew.grownBy w' uq.ownBlock)\/(v'.ownBlock=some wr.drew.heap.size/\wr.drew.grownBy w' none))->w'.cell? ⟨sp,1,none⟩=some (.slice (some ⟨F,0,none⟩) x.fol.length cF)/\w'.cell? ⟨F,q,none⟩=some uq/\w'.frozen? ⟨F,q,none⟩=false/\w'.cell? ⟨ga,j,none⟩=some (.int .i64 (q:Nat))/\∃ us2,im lo (w'.setCell ⟨F,q,none⟩ v') sp ⟨x.sets,ig x.fol (la.take (j+1)) lb⟩ vs vf us2/\Fx lo w (w'.setCell ⟨F,q,none⟩ v') (MB sp vs vf us) (MB sp vs vf us2):=by
 obtain⟨ga,ca,t,-,u,-,y⟩:=ha.form (λe=>by rw[e] at hjl;simp at hjl);have s:la[j]<us'.length:=by rw[hsx.ul];simp only;rw[kK];exact hq
 have r:=Zc hlo hfx.bl.size;have i:IL lo wr us'[la[j]] ((ig x.fol (la.take j) lb).getD la[j] []):=hsx.u la[j] s;have B:IL lo wr us'[la[j]] ((ig x.fol (la.take j) lb).getD la[j] []++[]):=by rw[append_nil];exact i
 obtain⟨F,cF,d,A,D,p1,d2,-,-,z3,-⟩:=im.grow hsx r s (v':=us'[la[j]]) (w':=wr) (k:=[]) B (.inl ⟨rfl,⟨rfl,rfl,rfl,zq,λ_ _ _=>rfl⟩⟩);simp only[kK] at d A;refine⟨la[j],us'[la[j]],_,F,cF,ga,ca,t,hq,i,?_,y j hjl,by rw[<-d];exact p1,d2,z3,λv' w' h1 h2=>?_⟩
 .have h3:=rp lb (la.take j) x.fol la[j];have h4:(la.take j).length*lb.length<=la.length*lb.length:=mul_le_mul_right _ σ;omega
 .obtain⟨F',C,m,_,_,_,_,k1,k2,k3,k4,k5,k6⟩:=im.grow (hsx.heap (w':=wr.drew) rfl) r s (v':=v') (w':=w') (k:=lb) h1 h2;rw[d] at m;injection m with f1 _ f3;injection f1 with f1;injection f1 with f1;subst f1;refine⟨by rw[<-d];exact k1,k2,k3,?_,_,by rw[DK _ _ _ _ hjl];exact k5,hfx.trans ⟨⟨k6.bl.os,k6.bl.tape,k6.bl.output,k6.bl.size,k6.bl.block⟩,k6.kp,k6.nw⟩⟩;have:w'.heap[ga]?=wr.heap[ga]?:=k4 ga u (hma ga (by rw[t];rfl));exact(cell_of_block this j).trans (y j hjl)
def oV {a b:Value} (h:im lo w sp x vs vf us) (hlo:lo<=w.heap.size) (ha:IL lo w a la) (hb:IL lo w b lb) (ma:∀ c,a.ownBlock=some c->¬ MB sp vs vf us c) (mb:∀ c,b.ownBlock=some c->¬ MB sp vs vf us c) (hla:∀ i∈la,i<x.fol.length) (N:Nat) (hN:∀ i,(x.fol.getD i []).length<=N) (hs:N+la.length*lb.length+lb.length<=900000000) (hll:la.length<=1000000) :
  Calls prog 156 #[.pointer (some ⟨sp,0,none⟩),a,b] w λe w'=>∃ d,e=.returned (.tuple #[])/\im lo w' sp ⟨x.sets,ig x.fol la lb⟩ vs vf d/\Fx lo w w' (MB sp vs vf us) (MB sp vs vf d):=by
 obtain⟨A,ca,s⟩:∃ A ca,a=.slice A la.length ca:=by
  rcases ha.o.2 with⟨h1,h2⟩|⟨g,a8,b0,hv,_⟩
  .exact⟨none,0,by rw[h1,h2]⟩
  .exact⟨_,_,hv⟩
 have HA:Hid (IL lo w a la/\∀ c,a.ownBlock=some c->¬ MB sp vs vf us c):=⟨ha,ma⟩
 have HB:Hid (IL lo w b lb/\∀ c,b.ownBlock=some c->¬ MB sp vs vf us c):=⟨hb,mb⟩
 have a5:=zh h;have a7:=zh hla;have HN:=zh hN;have a6:=zh hs;obtain⟨n,hn⟩:=zx la.length;have C:=zh hn;have Z:=zh s;rw[s,<-hn];rw[<-hn] at hll;clear h ha hb ma mb hla hN hs hn s
 go_enter func156,ntmps156
 go_wp2
 go_loopw [6] (λi wr=>∃(j:Nat) (d:List Value),i=.int .i64 j/\j<=n/\im lo wr sp ⟨x.sets,ig x.fol (la.take j) lb⟩ vs vf d/\Fx lo w wr (MB sp vs vf us) (MB sp vs vf d)) (λi _=>n-(intOf i).toNat)
 case atStart=>exact⟨0,us,rfl,Zk _,a5,Fx.refl _ _ _⟩
 case round=>
  obtain⟨j,d,rfl,hj,U,P⟩:=hrel;have E:=zh U;have r:=zh P;clear U P
  by_cases hlt:j<n
  .have L:(j:Int)<n:=ω;have y:j<la.length:=by have:=C.out;omega
   obtain⟨I,B⟩:=HA.1.frame HA.2 r;obtain⟨u,a3⟩:=HB.1.frame HB.2 r;have D:=a7 _ (Zg y);obtain⟨q,uq,R,F,cF,ga,a9,J,hq,M,Y,d1,p1,d2,z3,hG⟩:=Gl E r hlo I B y D;rw[Z.out] at J;injection J with e1 e2 e3;subst e1;subst e3;have a4:=HN la[j];have V:=a6.out;have a1:Hid (R.length+lb.length<=1000000000):=by show _<=_;omega
   have HR:=zh M;have a2:=zh u;have X:=Zc hlo r.bl.size;have HG:=zh hG;obtain⟨m,G⟩:=zx x.fol.length;rw[<-G] at p1 hq HG;have b1:(q:Int)<m:=ω;clear hG M I u B a3 G D Y a4 V e2;go_wp2
   go_region_law (refine rm rfl (.tmp 30) (.tmp 31) rfl rfl rfl (HR.heap (w':=wr.drew) rfl) (a2.heap (w':=wr.drew) rfl) X a1 ?_;intro v' w4 h1 h2;obtain⟨va,vl,vc,rfl⟩:=h1.shape;obtain⟨k1,k2,k3,k4,t,k5,k6⟩:=HG _ w4 h1 h2;have HK:Hid (im lo (w4.setCell ⟨F,q,none⟩ (.slice va vl vc)) sp ⟨x.sets,ig x.fol (la.take (j+1)) lb⟩ vs vf t/\Fx lo w (w4.setCell ⟨F,q,none⟩ (.slice va vl vc)) (MB sp vs vf us) (MB sp vs vf t)):=⟨k5,k6⟩;clear k5 k6 h1 h2)
   all_goals
    go_wp2
    go_roundw
    case rel=>exact⟨j+1,t,π,ω,HK.1,HK.2⟩
    case measure=>simp[intOf]<;>omega
  .have L:¬(j:Int)<n:=ω;have HE:Hid (im lo wr sp ⟨x.sets,ig x.fol la lb⟩ vs vf d):=by
    have:=E
    rwa [show la.take j=la from take_of_length_le (η C.out)] at this
   go_wp2
   refine bodyPost_end (results_none rfl _ _ _) rfl ?_
   first|exact⟨d,rfl,HE,r⟩|exact⟨rfl,d,HE,r⟩
open Sx (aO dw RT)
def dt:RT->Nat
 |.bytes _=>0
 |.rep t sg lo hi=>if bO (.rep t sg lo hi)=0 then 0 else(if sg=123 then lo.toNat*(dt t+1)+(if hi<0 then dt t+2 else(hi-lo).toNat*(dt t+1)+1) else dt t+1)
 |.node k ks=>if bO (.node k ks)=0 then 0 else csts ks
where csts:List RT->Nat
 |[]=>0
 |t::ts=>dt t+1+csts ts
structure MP (f:RM) (k c:Nat):Prop where
 g:∀ x N,(∀ i,(x.fol.getD i []).length<=N)->(f x).1.first.length<=k/\(f x).1.last.length<=k/\∀ i,((f x).2.fol.getD i []).length<=N+4096*c
def B2 (h:∀ i,(x.fol.getD i []).length<=N) (hp:p.last.length<=64) (hq:q.first.length<=64):∀ i,((x.beh p q).fol.getD i []).length<=N+4096:=λi=>by
 have h1:=rp q.first p.last x.fol i;have h2:=h i;have h3:=Nat.mul_le_mul hp hq;show((ig x.fol p.last q.first).getD i []).length<=_;omega
def Gn (p q:Rp):(cE p q).first.length<=p.first.length+q.first.length/\(cE p q).last.length<=p.last.length+q.last.length:=by
 unfold cE
 constructor
 .simp only;split<;>simp
 .simp only;split<;>simp
section
variable {f:RM}{k c:Nat} (h:MP f k c)
include h
end
mutual
/-- What a tree that is made is like. -/
def ny:RT->Prop
 |.bytes _=>True
 |.node _ ks=>jn ks
 |.rep t sg lo hi=>ny t/\(sg=42\/sg=43\/sg=63\/(sg=123/\(0<=lo/\lo<=30)/\(hi=-1\/(lo<=hi/\hi<=30))))
def jn:List RT->Prop
 |[]=>True
 |t::ts=>ny t/\jn ts
end
open Sx (RT)
mutual
/-- How many nodes. -/
def jb:RT->Nat
 |.bytes _=>1
 |.rep t _ _ _=>jb t+3
 |.node _ ks=>iD ks+1
def iD:List RT->Nat
 |[]=>0
 |t::ts=>jb t+1+iD ts
end
def AC {k w c:Nat} (hk:1<=k) (h:c<=k*w) (d:Nat):c+d<=k*(w+d):=by
 rw[Nat.mul_add];have:=mul_le_mul_right d hk;omega
mutual
theorem rt:∀ t:RT,ny t->bO t<=64->dt t<=bO t*jb t
 |.bytes S,_,_=>by simp[dt]
 |.rep t sg lo hi,h,hs=>by
  simp only[ny] at h
  by_cases hz:bO (.rep t sg lo hi)=0
  .grind [dt]
  .have e2:dt (.rep t sg lo hi)=(if sg=123 then lo.toNat*(dt t+1)+(if hi<0 then dt t+2 else(hi-lo).toNat*(dt t+1)+1) else dt t+1):=by rw[dt,Zh hz]
   have e3:bO (.rep t sg lo hi)=min 1000 (if sg=123 then(if hi<0 then bO t*(lo+1).toNat else bO t*hi.toNat) else bO t):=by simp only[bO]
   have e4:jb (.rep t sg lo hi)=jb t+3:=by simp only[jb]
   rw[e2,e4];obtain⟨ht,d⟩:=h
   by_cases h123:sg=123
   .subst h123;rcases d with q|q|q|⟨-,⟨l0,l3⟩,hh⟩
    .cases q
    .cases q
    .cases q
    rw[e3,Zi rfl] at hs hz ⊢;rw[Zi rfl]
    by_cases hn:hi<0
    .rw[Zi hn] at hs hz ⊢;rw[Zi hn];have e5:(lo+1).toNat=lo.toNat+1:=ω;rw[e5] at hs hz ⊢;have hk:bO t*(lo.toNat+1)<=64:=ω;have hm:min 1000 (bO t*(lo.toNat+1))=bO t*(lo.toNat+1):=ω;rw[hm] at hz ⊢;have hp:1<=bO t:=by grind
     have ih:=AC hp (rt t ht (by rw[mul_succ] at hk;omega)) 2;have h1:(lo.toNat+1)*(dt t+2)<=(lo.toNat+1)*(bO t*(jb t+2)):=mul_le_mul_left _ ih;have h2:bO t*(lo.toNat+1)*(jb t+3)=(lo.toNat+1)*(bO t*(jb t+2))+bO t*(lo.toNat+1):=by grind
     have h3:(lo.toNat+1)*(dt t+2)=lo.toNat*(dt t+1)+lo.toNat+(dt t+2):=by grind
     omega
    .rw[Zh hn] at hs hz ⊢;rw[Zh hn];have hk:bO t*hi.toNat<=64:=ω;have hm:min 1000 (bO t*hi.toNat)=bO t*hi.toNat:=ω;rw[hm] at hz ⊢;have hq:1<=hi.toNat:=by grind
     have hp:1<=bO t:=by grind
     have ih:=AC hp (rt t ht (η (mul_le_mul_left (bO t) hq))) 2;have h1:hi.toNat*(dt t+2)<=hi.toNat*(bO t*(jb t+2)):=mul_le_mul_left _ ih;have h2:bO t*hi.toNat*(jb t+3)=hi.toNat*(bO t*(jb t+2))+bO t*hi.toNat:=by grind
     have h3:hi.toNat*(dt t+2)=hi.toNat*(dt t+1)+hi.toNat:=by rw[show dt t+2=(dt t+1)+1 from rfl,mul_succ]
     have h4:hi.toNat*(dt t+1)=lo.toNat*(dt t+1)+(hi-lo).toNat*(dt t+1):=by rw[<-Nat.add_mul];congr 1;omega
     omega
   .rw[e3,Zh h123] at hs hz ⊢;rw[Zh h123];have hm:min 1000 (bO t)=bO t:=ω;rw[hm] at hz ⊢;have ih:=AC (show 1<=bO t by omega) (rt t ht ω) 3;omega
 |.node k ks,h,hs=>by
  simp only[ny] at h
  by_cases hz:bO (.node k ks)=0
  .rw[dt,Zi hz];omega
  .have e2:dt (.node k ks)=dt.csts ks:=by rw[dt,Zh hz]
   have e3:bO (.node k ks)=min 1000 (bv ks):=by simp only[bO]
   have e4:jb (.node k ks)=iD ks+1:=by simp only[jb]
   rw[e3] at hs hz ⊢;rw[e2,e4];have hm:min 1000 (bv ks)=bv ks:=ω;rw[hm] at hz ⊢;have:=B3 ks h (bv ks) ω ω zq;rw[mul_succ];omega
theorem B3:∀ ts:List RT,jn ts->∀ K,1<=K->K<=64->bv ts<=K->dt.csts ts<=K*iD ts
 |[],_,K,_,_,_=>by simp[dt.csts]
 |t::ts,h,K,h1,h64,hK=>by
  simp only[jn] at h;simp only[bv] at hK;have i1:=rt t h.1 ω;have i2:=B3 ts h.2 K h1 h64 ω;have i3:bO t*jb t<=K*jb t:=mul_le_mul_right _ ω;rw[dt.csts,iD,Nat.mul_add,Nat.mul_add,Nat.mul_one];omega
end
end Go.Proofs.YtbjabpodkaokjaaGreatDoor

import Derived.Test.YtbjabpodkaokjaaGreatDoorCC05
import Derived.Deep.RegionHeld3
import Derived.DeepKeys4
set_option linter.all false
set_option maxHeartbeats 4000000
set_option maxRecDepth 100000
open List Nat Go.World Go.Proofs.Tryz
namespace Go.Proofs.YtbjabpodkaokjaaGreatDoor
open Go.RowKit
variable {vs:List Value}{tk size:Nat}{w':World}{S:Nat->Prop}{w:World}{p mb:Nat}{x:Value}{n:Nat}{xs:List Value}{i base off q o k g s:Nat}
def de {e:TypeId}{v:Value} (h:w.ownsRow base e size v n xs) (hq:v.ownBlock=some q):q<w.heap.size:=by
 rcases h.2 with⟨rfl,_⟩|⟨g,b,a,rfl,h1,h2,r⟩
 .simp[Value.ownBlock] at hq
 .simp[Value.ownBlock] at hq;subst hq;exact(ZC h2)
structure Ap (p off:Nat) (r:Option Nat) (w w':World):Prop where
 os:w'.os=w.os
 tape:w'.tape=w.tape
 output:w'.output=w.output
 size:w.heap.size<=w'.heap.size
 block:∀ b,b<w.heap.size->b≠p->some b≠r->w'.heap[b]?=w.heap[b]?
 cell:∀ o,o≠off->w'.cell? ⟨p,o,none⟩=w.cell? ⟨p,o,none⟩
 fz:∀ o,w'.frozen? ⟨p,o,none⟩=w.frozen? ⟨p,o,none⟩
theorem ak {e:TypeId}{v:Value} (h:w.ownsRow base e size v n xs) (hb:∀ b,v.ownBlock=some b->w'.heap[b]?=w.heap[b]?):w'.ownsRow base e size v n xs:=by
 refine⟨h.1,?_⟩;rcases h.2 with q|⟨g,c,a,rfl,h1,h2,r⟩
 .exact .inl q
 .exact .inr ⟨g,c,a,rfl,h1,(hb g rfl).trans h2,r⟩
theorem ah (w:World) (b o:Nat) (v:Value)  (h:k≠b):(w.setCell ⟨b,o,none⟩ v).heap[k]?=w.heap[k]?:=by
 simp[World.setCell,Array.getElem?_modify,Ne.symm h]
def Bp {w wa w4:World}{v x:Value} (hb:Below w.heap.size w wa) (hp:p<w.heap.size) (hne:v.ownBlock≠some p) (hl:∀ q,v.ownBlock=some q->q<w.heap.size)
  (hg:(v.ownBlock=some g/\wa.grownBy w4 (some g))\/(g=wa.heap.size/\wa.grownBy w4 none)) (hf:w.frozen? ⟨p,off,none⟩=false) :
  Ap p off v.ownBlock w (w4.setCell ⟨p,off,none⟩ x)/\g≠p/\(v.ownBlock=some g\/w.heap.size<=g)/\w4.frozen? ⟨p,off,none⟩=false:=by
 have f:=hb.size;have l:g≠p:=by
  rcases hg with⟨h1,_⟩|⟨h1,_⟩
  .rintro rfl;exact hne h1
  .omega
 have c:∀ b,b<w.heap.size->some b≠v.ownBlock->w4.heap[b]?=w.heap[b]?:=by
  intro b h j;rcases hg with⟨h1,h2⟩|⟨h1,h2⟩
  .exact(h2.block b ω (by rw[<-h1];exact j)).trans (hb.block b h)
  .exact(h2.block b ω χ).trans (hb.block b h)
 have d:=c p hp (λe=>hne e.symm);have a:w.heap.size<=w4.heap.size/\w4.os=w.os/\w4.tape=w.tape/\w4.output=w.output:=by
  rcases hg with⟨h1,h2⟩|⟨h1,h2⟩
  .exact⟨Zc f h2.size,h2.os.trans hb.os,h2.tape.trans hb.tape,h2.output.trans hb.output⟩
  .exact⟨Zc f h2.size,h2.os.trans hb.os,h2.tape.trans hb.tape,h2.output.trans hb.output⟩
 refine⟨⟨a.2.1,a.2.2.1,a.2.2.2,by simp[World.setCell];exact a.1,λb h1 h2 h3=>?_,λo ho=>?_,λo=>?_⟩,l,?_,?_⟩
 .rw[ah _ _ _ _ h2];exact c b h1 h3
 .have:(w4.setCell ⟨p,off,none⟩ x).cell? ⟨p,o,none⟩=w4.cell? ⟨p,o,none⟩:=by simp[go_sem,ho]
  rw[this];simp[cell?,d]
 .have:(w4.setCell ⟨p,off,none⟩ x).frozen? ⟨p,o,none⟩=w4.frozen? ⟨p,o,none⟩:=by simp[go_sem]
  rw[this];simp[frozen?,d]
 .rcases hg with⟨h1,_⟩|⟨h1,_⟩
  .exact .inl h1
  .exact .inr ω
 .rw[<-hf];simp[frozen?,d]
structure cd (S:Nat->Prop) (w w':World):Prop where
 os:w'.os=w.os
 tape:w'.tape=w.tape
 output:w'.output=w.output
 size:w.heap.size<=w'.heap.size
 block:∀ b,b<w.heap.size->¬ S b->w'.heap[b]?=w.heap[b]?
variable (S w) in
theorem cd.refl:cd S w w:=⟨rfl,rfl,rfl,zq,λ_ _ _=>rfl⟩
theorem cd.trans {w w' w'':World} (h:cd S w w') (g:cd S w' w''):cd S w w'':=
 ⟨g.os.trans h.os,g.tape.trans h.tape,g.output.trans h.output,Zc h.size g.size,λb hb hs=>(g.block b (Zd hb h.size) hs).trans (h.block b hb hs)⟩
def cd.mono {S S':Nat->Prop} (h:cd S w w') (k:∀ b,b<w.heap.size->S b->S' b):cd S' w w':=⟨h.os,h.tape,h.output,h.size,λb hb hs=>h.block b hb (λq=>hs (k b hb q))⟩
def cd.of_below (S:Nat->Prop) (h:Below w.heap.size w w'):cd S w w':=⟨h.os,h.tape,h.output,h.size,λb hb _=>h.block b hb⟩
theorem cd.drew (h:cd S w w'):cd S w w'.drew:=⟨h.os,h.tape,h.output,h.size,h.block⟩
def Ap.exc {r:Option Nat} (h:Ap p off r w w'):cd (λb=>b=p\/some b=r) w w':=
 ⟨h.os,h.tape,h.output,h.size,λb hb hs=>h.block b hb (λe=>hs (.inl e)) (λe=>hs (.inr e))⟩
open Go.ChangeMaps (setBlock)
theorem cd.setBlock (h:cd S w w') {b:Nat} (hb:S b) (o:Obj):cd S w (Go.ChangeMaps.setBlock w' b o):=
 ⟨h.os,h.tape,h.output,by simp[Go.ChangeMaps.setBlock];exact h.size,λk hk hs=>by
  rw[<-h.block k hk hs];have:b≠k:=λe=>hs (e▸hb)
  simp[Go.ChangeMaps.setBlock,this]⟩
structure av (te:TypeId) (size:Nat) (w:World) (p mb:Nat) (v:Value) (vs:List Value) (tk:Nat):Prop where
 c0:w.cell? ⟨p,0,none⟩=some (.map (some mb))
 c1:w.cell? ⟨p,1,none⟩=some v
 c2:w.cell? ⟨p,2,none⟩=some (.int .i64 (tk:Int))
 fz:∀ o,w.frozen? ⟨p,o,none⟩=false
 mp:w.heap[mb]?=some (.map (bW vs) vs.length)
 own:w.ownsRow 0 te size v vs.length (vs.flatMap λx=>x.cells.toList)
 ne:v.ownBlock≠some p
 tl:tk<=vs.length
 sz:∀ x∈vs,x.cells.size=size
def cZ (p mb:Nat) (v:Value) (b:Nat):Prop:=b=p\/b=mb\/some b=v.ownBlock
def av.lt {te:TypeId}{v:Value} (h:av te size w p mb v vs tk) {b:Nat} (hb:cZ p mb v b):b<w.heap.size:=by
 rcases hb with rfl|rfl|hb
 .exact aF h.c0
 .exact(ZC h.mp)
 .exact de h.own hb.symm
def av.keep {te:TypeId}{v:Value} (h:av te size w p mb v vs tk) (k:∀ b,cZ p mb v b->w'.heap[b]?=w.heap[b]?):av te size w' p mb v vs tk:=by
 have hp:=k p (.inl rfl);refine⟨?_,?_,?_,λo=>?_,(k mb (.inr (.inl rfl))).trans h.mp,ak h.own (λb e=>k b (.inr (.inr e.symm))),h.ne,h.tl,h.sz⟩
 .rw[<-h.c0];simp[cell?,hp]
 .rw[<-h.c1];simp[cell?,hp]
 .rw[<-h.c2];simp[cell?,hp]
 .rw[<-h.fz o];simp[frozen?,hp]
def av.made (te T:TypeId) (size:Nat) (w:World):av te size ((w.alloc (.map #[] 0)).alloc (.cells #[.map (some w.heap.size),.slice none 0 0,.int .i64 0] T)) (w.heap.size+1) w.heap.size (.slice none 0 0) [] 0:=by
 have e:((w.alloc (.map #[] 0)).alloc (.cells #[.map (some w.heap.size),.slice none 0 0,.int .i64 0] T)).heap[w.heap.size+1]?=some (.cells #[.map (some w.heap.size),.slice none 0 0,.int .i64 0] T):=by
  have:=Za (w.alloc (.map #[] 0)) (.cells #[.map (some w.heap.size),.slice none 0 0,.int .i64 0] T)
  simpa using this
 have m:((w.alloc (.map #[] 0)).alloc (.cells #[.map (some w.heap.size),.slice none 0 0,.int .i64 0] T)).heap[w.heap.size]?=some (.map (bW []) 0):=by
  rw[Ze _ _ _ χ,heap_alloc_new];simp[bW]
 generalize ((w.alloc (.map #[] 0)).alloc (.cells #[.map (some w.heap.size),.slice none 0 0,.int .i64 0] T))=W at e m;exact⟨by simp[cell?,e],by simp[cell?,e],by simp[cell?,e],λo=>by simp[frozen?,e],m,Zn _ _ _ _,by simp[Value.ownBlock],zq,χ⟩
def av.exc {te:TypeId}{v:Value} (h:av te size w p mb v vs tk) (k:cd S w w') (hs:∀ b,cZ p mb v b->¬ S b):av te size w' p mb v vs tk:=
 h.keep (λb hb=>k.block b (h.lt hb) (hs b hb))
def Fe (h:∀ x∈vs,x.cells.size=s):(vs.flatMap λx=>x.cells.toList).length=vs.length*s:=by
 induction vs with
 |nil=>simp
 |cons a l ih=>
  have ha:=h a χ;have:=ih (λx hx=>h x (by simp[hx]));simp only[flatMap_cons,length_append,Array.length_toList,ha,this,length_cons,Nat.add_mul];omega
def flat_get (h:∀ x∈vs,x.cells.size=s):∀ {i:Nat}{x:Value},vs[i]?=some x->∀ j,j<s->(vs.flatMap λx=>x.cells.toList)[i*s+j]?=x.cells[j]?:=by
 induction vs with
 |nil=>intro i x hx;simp at hx
 |cons a l ih=>
  intro i x hx j hj;have ha:=h a χ
  cases i with
  |zero=>
   simp at hx;subst hx;rw[flatMap_cons,Zo (by simp[ha];omega)]
   simp
  |succ i=>
   simp at hx;have:=ih (λx hx=>h x (by simp[hx])) hx j hj;rw[flatMap_cons,getElem?_append_right (by simp[ha,Nat.add_mul];omega),<-this]
   congr 1
   simp[ha,Nat.add_mul];omega
theorem av.at {te:TypeId}{v:Value} (h:av te size w p mb v vs tk)  (hx:vs[i]?=some x) (hs:0<size) :
  ∃ g a,v=.slice (some ⟨g,0,none⟩) vs.length a/\∀ j,j<size->w.cell? ⟨g,i*size+j,none⟩=x.cells[j]?:=by
 rcases h.own.2 with⟨_,hn⟩|⟨g,a,c,rfl,_⟩
 .have:=(List.getElem?_eq_some_iff.1 hx).1;omega
 .refine⟨g,a,rfl,λj hj=>?_⟩;have hi:=(List.getElem?_eq_some_iff.1 hx).1;have b:i*size+j<vs.length*size:=by
   have:=mul_le_mul_right size (show i+1<=vs.length by omega);rw[Nat.add_mul] at this;omega
  rw[h.own.cellAt _ b,flat_get h.sz hx j hj]
def fQ {b:Nat}{x0 x1 x2 x3 x4:Value}{T:TypeId} (h:w.heap[b]?=some (.cells #[x0,x1,x2,x3,x4] T)):w.cell? ⟨b,0,none⟩=some x0/\w.cell? ⟨b,1,none⟩=some x1/\w.cell? ⟨b,2,none⟩=some x2/\w.cell? ⟨b,3,none⟩=some x3/\w.cell? ⟨b,4,none⟩=some x4:=by
 refine⟨?_,?_,?_,?_,?_⟩<;>simp[cell?,h]
abbrev mi (x0 x1 x2 x3:Nat) (b:Bool):Value:=.agg #[.int .u64 (x0:Int),.int .u64 (x1:Int),.int .u64 (x2:Int),.int .u64 (x3:Int),.bool b]
def Tryz.infoStt:(prog.info? 244).map (λi=>(i.zero,i.size,i.bytes))=some (some (.agg #[.int .u64 0,.int .u64 0,.int .u64 0,.int .u64 0,.bool false]),5,40):=κ
def Dc (w:World) (p off:Nat) (v:Value) (n:Nat) (xs:List Value) (x0 x1 x2 x3:Nat) (b:Bool) (hc:w.cell? ⟨p,off,none⟩=some v) (hf:w.frozen? ⟨p,off,none⟩=false) (hne:v.ownBlock≠some p)
  (ho:w.ownsRow 0 244 5 v n xs) (hn:n<=1048576) :
  Calls prog 180 #[.pointer (some ⟨p,off,none⟩),mi x0 x1 x2 x3 b] w λe w'=>e=.returned (.tuple #[])/\∃ g cap,w'.cell? ⟨p,off,none⟩=some (.slice (some ⟨g,0,none⟩) (n+1) cap) /\
   w'.ownsRow 0 244 5 (.slice (some ⟨g,0,none⟩) (n+1) cap) (n+1) (xs++(mi x0 x1 x2 x3 b).cells.toList)/\g≠p/\(v.ownBlock=some g\/w.heap.size<=g)/\Ap p off v.ownBlock w w':=by
 have hp:=aF hc;obtain⟨i0,y,l,r,t⟩:=info_parts Tryz.infoStt;obtain⟨w1,c⟩:=zx (w.alloc (.cells #[.int .u64 (x0:Int),.int .u64 (x1:Int),.int .u64 (x2:Int),.int .u64 (x3:Int),.bool b] 244));have a:Below w.heap.size w w1:=by rw[c];exact ZA
 have j:=cell_below a hc;have HO:Hid (w1.ownsRow 0 244 5 v n xs):=by rw[c];exact ho.alloc _
 have hx:w1.heap[w.heap.size]?=some (.cells #[.int .u64 (x0:Int),.int .u64 (x1:Int),.int .u64 (x2:Int),.int .u64 (x3:Int),.bool b] 244):=by rw[c];exact Za w _
 have HW:=zh c;obtain⟨y0,y1,y2,y3,y4⟩:=fQ hx;clear c hx;have z:(w1.alloc (.cells #[.int .u64 (x0:Int),.int .u64 (x1:Int),.int .u64 (x2:Int),.int .u64 (x3:Int),.bool b] 244)).cell? ⟨p,off,none⟩=some v:=cell_below ZA j;have B:=new_ne w1 ⟨p,off,none⟩ j;have d:∀ q,v.ownBlock=some q->q<w.heap.size:=λq e=>de ho e
 have m:Hid (∀ {w4:World}{g:Nat} (x:Value),((v.ownBlock=some g/\(w1.alloc (.cells #[.int .u64 (x0:Int),.int .u64 (x1:Int),.int .u64 (x2:Int),.int .u64 (x3:Int),.bool b] 244)).drew.grownBy w4 (some g))\/(g=(w1.alloc (.cells #[.int .u64 (x0:Int),.int .u64 (x1:Int),.int .u64 (x2:Int),.int .u64 (x3:Int),.bool b] 244)).heap.size/\(w1.alloc (.cells #[.int .u64 (x0:Int),.int .u64 (x1:Int),.int .u64 (x2:Int),.int .u64 (x3:Int),.bool b] 244)).drew.grownBy w4 none))->Ap p off v.ownBlock w (w4.setCell ⟨p,off,none⟩ x)/\g≠p/\(v.ownBlock=some g\/w.heap.size<=g)/\w4.frozen? ⟨p,off,none⟩=false/\w4.cell? ⟨p,off,none⟩=some v):=λ{w4 g} x hg=>by
  obtain⟨a1,a2,a3,a4⟩:=Bp (x:=x) (a.trans (((Below.refl _ w1).alloc zq _).drew.mono a.size)) hp hne d hg hf;refine⟨a1,a2,a3,a4,?_⟩;have:w4.heap[p]?=w.heap[p]?:=by
   rcases hg with⟨h1,h2⟩|⟨h1,h2⟩
   .exact(h2.block p (by have:=a.size;simp;omega) (by rw[<-h1];exact λe=>hne e.symm)).trans ((a.trans (((Below.refl _ w1).alloc zq _).drew.mono a.size)).block p hp)
   .exact(h2.block p (by have:=a.size;simp;omega) χ).trans ((a.trans (((Below.refl _ w1).alloc zq _).drew.mono a.size)).block p hp)
  rw[<-hc];simp[cell?,this]
 clear a hc hf ho d hne
 go_enter func180,ntmps180
 go_wp2
 rw[<-HW.out]
 go_region_law (refine cy _ (by rfl) (.tmp 8) (.tmp 10) 294 (by rfl) 0 244 i0 _ 5 40 underlying294 y l r t (by rfl) Zr v n xs (by rfl) (show ownsRow _ _ _ _ _ _ _ from Zm HO _) ⟨w1.heap.size,0,none⟩ 1 1 [.int .u64 (x0:Int),.int .u64 (x1:Int),.int .u64 (x2:Int),.int .u64 (x3:Int),.bool b] (by rfl) (by rfl) (news_of_block (w:=w1.alloc (.cells #[.int .u64 (x0:Int),.int .u64 (x1:Int),.int .u64 (x2:Int),.int .u64 (x3:Int),.bool b] 244)) (Za w1 _)) Zt ω Zs ω (Zk _) _ (by rfl) ?_;intro g4 k4 w4 f h A;obtain⟨a1,a2,a3,f0,e0⟩:=m (.slice (some ⟨g4,0,none⟩) (n+1) k4) h;have HA:Hid (g4≠p/\(v.ownBlock=some g4\/w.heap.size<=g4)/\Ap p off v.ownBlock w (w4.setCell ⟨p,off,none⟩ (.slice (some ⟨g4,0,none⟩) (n+1) k4))):=⟨a2,a3,a1⟩;have u:=zh f;clear f h a1 a2 a3)
 all_goals go_wp2
 all_goals refine bodyPost_end (results_none rfl _ _ _) rfl ?_
 all_goals exact⟨rfl,g4,k4,by simp[go_sem,e0],ak u (λb hb=>ah _ _ _ _ (by simp[Value.ownBlock] at hb;rw[<-hb];exact HA.1)),HA⟩
def Dd (w:World) :
  Calls prog 129 #[] w λe w'=>e=.returned (.pointer (some ⟨w.heap.size+1,0,none⟩))/\av 244 5 w' (w.heap.size+1) w.heap.size (.slice none 0 0) [] 0/\Below w.heap.size w w':=by
 have a:(Instr.makeMap 293 none).run prog w=.ok (.map (some w.heap.size)) (w.alloc (.map #[] 0)):=run_makeMap _ _
 go_enter func129,ntmps129
 go_wp2
 go_ret
 exact⟨rfl,av.made _ _ _ w,ZA.alloc χ _⟩
def wN (w:World) (p mb:Nat) (v:Value) (vs:List Value) (tk:Nat) (h:av 244 5 w p mb v vs tk) :
  Calls prog 133 #[.pointer (some ⟨p,0,none⟩)] w λe w'=>e=.returned (.int .i64 (vs.length:Int))/\w'=w:=by
 have c0:=h.c0;have hm:=h.mp;have hl:(Builtin.len_ #[293] 3 #[.map (some mb)]).run prog w=.ok (.int .i64 (vs.length:Int)) w:=lj _ underlying293 hm
 go_enter func133,ntmps133
 go_wp2
 go_ret
 exact⟨rfl,rfl⟩
def Jz:laidOutB prog=true:=κ
def Ff:prog.keyTypeAt 5 244=true:=κ
def Kk:prog.keyTypeAt 5 150=true:=κ
def kt:Go.Maps.Keyed prog 244:=.of_law (deep_law_laid Jz (m:=5) ω (le_of_ble_eq_true κ) Ff κ)
def nN:Go.Maps.Keyed prog 150:=.of_law (deep_law_laid Jz (m:=5) ω (le_of_ble_eq_true κ) Kk κ)
def zD:prog.cellsOf 147=1:=κ
def Fg:prog.cellsOf 148=4:=κ
def zE:prog.cellsOf 150=4:=κ
def wO:prog.cellsOf 244=5:=κ
def Ih:prog.cellsOf 4=1:=κ
def wf_u64 (x:Nat) (h:x<18446744073709551616):(Lit.int .u64 (x:Int)).wf=true:=by
 have h1:IntKind.u64.min=0:=rfl;have h2:IntKind.u64.max=18446744073709551615:=rfl;simp[Lit.wf,h1,h2];omega
def Fh (d x0 x1 x2 x3:Nat) (h0:x0<18446744073709551616) (h1:x1<18446744073709551616) (h2:x2<18446744073709551616) (h3:x3<18446744073709551616) :
  prog.keyLits (d+2) 148 [.int .u64 (x0:Int),.int .u64 (x1:Int),.int .u64 (x2:Int),.int .u64 (x3:Int)]=some [.int .u64 (x0:Int),.int .u64 (x1:Int),.int .u64 (x2:Int),.int .u64 (x3:Int)]:=by
 have r4:List.range 4=[0,1,2,3]:=rfl;simp[Program.keyLits,underlying148,underlying147,Fg,zD,wf_u64,h0,h1,h2,h3,r4]
def Fi (d x0 x1 x2 x3:Nat) (h0:x0<18446744073709551616) (h1:x1<18446744073709551616) (h2:x2<18446744073709551616) (h3:x3<18446744073709551616) :
  prog.keyLits (d+3) 150 [.int .u64 (x0:Int),.int .u64 (x1:Int),.int .u64 (x2:Int),.int .u64 (x3:Int)]=some [.int .u64 (x0:Int),.int .u64 (x1:Int),.int .u64 (x2:Int),.int .u64 (x3:Int)]:=by
 have r4:List.range 4=[0,1,2,3]:=rfl;simp[Program.keyLits,underlying150,underlying148,underlying147,zE,Fg,zD,wf_u64,h0,h1,h2,h3,r4]
def zF (d x0 x1 x2 x3:Nat) (b:Bool) (h0:x0<18446744073709551616) (h1:x1<18446744073709551616) (h2:x2<18446744073709551616) (h3:x3<18446744073709551616) :
  prog.keyLits (d+4) 244 [.int .u64 (x0:Int),.int .u64 (x1:Int),.int .u64 (x2:Int),.int .u64 (x3:Int),.bool b]=some [.int .u64 (x0:Int),.int .u64 (x1:Int),.int .u64 (x2:Int),.int .u64 (x3:Int),.bool b]:=by
 have r4:List.range 4=[0,1,2,3]:=rfl;simp[Program.keyLits,underlying244,underlying150,underlying148,underlying147,underlying4,wO,zE,Fg,zD,Ih,wf_u64,h0,h1,h2,h3,r4]
def De:prog.keyType 244=true:=κ
def Ii:prog.keyType 150=true:=κ
def Mx:∃ n,prog.types.size=n+4:=⟨prog.types.size-4,by
 have:4<=prog.types.size:=le_of_ble_eq_true κ
 omega⟩
def Bq (x0 x1 x2 x3:Nat) (h0:x0<18446744073709551616) (h1:x1<18446744073709551616) (h2:x2<18446744073709551616) (h3:x3<18446744073709551616) :
  ∃ l,keyOf prog 150 (.agg #[.int .u64 (x0:Int),.int .u64 (x1:Int),.int .u64 (x2:Int),.int .u64 (x3:Int)])=some l:=by
 obtain⟨n,hn⟩:=Mx;simp[keyOf,underlying150,Ii,Value.formed,Value.cells,hn,zE,Fi,h0,h1,h2,h3]
def tn (x0 x1 x2 x3:Nat) (b:Bool) (h0:x0<18446744073709551616) (h1:x1<18446744073709551616) (h2:x2<18446744073709551616) (h3:x3<18446744073709551616) :
  ∃ l,keyOf prog 244 (mi x0 x1 x2 x3 b)=some l:=by
 obtain⟨n,hn⟩:=Mx;simp[keyOf,underlying244,De,Value.formed,Value.cells,hn,wO,zF,h0,h1,h2,h3]
def JC (w:World):(zeroValue 3).run prog w=.ok (.int .i64 0) w:=κ
def av.put {te:TypeId}{v:Value} (h:av te size w p mb v vs tk) (x:Value) :
  (setBlock w mb (.map (bW (vs++[x])) (vs++[x]).length)).cell? ⟨p,1,none⟩=some v/\(∀ o,(setBlock w mb (.map (bW (vs++[x])) (vs++[x]).length)).cell? ⟨p,o,none⟩=w.cell? ⟨p,o,none⟩)/\(∀ o,(setBlock w mb (.map (bW (vs++[x])) (vs++[x]).length)).frozen? ⟨p,o,none⟩=false) /\
   (setBlock w mb (.map (bW (vs++[x])) (vs++[x]).length)).ownsRow 0 te size v vs.length (vs.flatMap λx=>x.cells.toList)/\(setBlock w mb (.map (bW (vs++[x])) (vs++[x]).length)).heap[mb]?=some (.map (bW (vs++[x])) (vs++[x]).length) /\
   (∀ b,b≠mb->(setBlock w mb (.map (bW (vs++[x])) (vs++[x]).length)).heap[b]?=w.heap[b]?)/\p≠mb/\(v.ownBlock≠some mb):=by
 have f:p≠mb:=by
  rintro rfl;have:=h.c0;simp[cell?,h.mp] at this
 have c:v.ownBlock≠some mb:=by
  intro e;rcases h.own.2 with⟨rfl,_⟩|⟨g,l,j,rfl,h1,h2,r⟩
  .simp[Value.ownBlock] at e
  .simp[Value.ownBlock] at e;subst e;rw[h.mp] at h2;simp at h2
 have a:∀ b,b≠mb->(setBlock w mb (.map (bW (vs++[x])) (vs++[x]).length)).heap[b]?=w.heap[b]?:=λb hb=>by
  simp[setBlock,Ne.symm hb]
 have d:(setBlock w mb (.map (bW (vs++[x])) (vs++[x]).length)).heap[mb]?=some (.map (bW (vs++[x])) (vs++[x]).length):=by
  have:=(ZC h.mp)
  simp[setBlock,this]
 generalize setBlock w mb (.map (bW (vs++[x])) (vs++[x]).length)=W at a d;have hp:=a p f;refine⟨?_,λo=>by simp[cell?,hp],λo=>?_,ak h.own (λb e=>a b (by rintro rfl;exact c e)),d,a,f,c⟩
 .rw[<-h.c1];simp[cell?,hp]
 .rw[<-h.fz o];simp[frozen?,hp]
def Fj (w:World) (p mb:Nat) (v:Value) (vs:List Value) (tk:Nat) (x0 x1 x2 x3:Nat) (b:Bool) (i:Nat) (h:av 244 5 w p mb v vs tk) (hi:vs[i]?=some (mi x0 x1 x2 x3 b))
  (hr:∀ w1:World,w1.heap[mb]?=w.heap[mb]?->(Instr.lookup 293 (.map (some mb)) (mi x0 x1 x2 x3 b) true).run prog w1=.ok (.tuple #[.int .i64 (i:Int),.bool true]) w1) :
  Calls prog 130 #[.pointer (some ⟨p,0,none⟩),mi x0 x1 x2 x3 b] w λe w'=>e=.returned (.int .i64 (i:Int))/\Below w.heap.size w w':=by
 obtain⟨w1,c⟩:=zx (w.alloc (.cells #[.int .u64 (x0:Int),.int .u64 (x1:Int),.int .u64 (x2:Int),.int .u64 (x3:Int),.bool b] 244));have a:Below w.heap.size w w1:=by rw[c];exact ZA
 have d:=cell_below a h.c0;have hx:w1.heap[w.heap.size]?=some (.cells #[.int .u64 (x0:Int),.int .u64 (x1:Int),.int .u64 (x2:Int),.int .u64 (x3:Int),.bool b] 244):=by rw[c];exact Za w _
 have f:=hr w1.drew (by show w1.heap[mb]?=_;exact a.block mb (h.lt (.inr (.inl rfl))));obtain⟨y0,y1,y2,y3,y4⟩:=fQ hx;have HW:=zh c;have HB:=zh a;clear c hx a h hi hr
 go_enter func130,ntmps130
 go_wp2
 rw[<-HW.out]
 go_region
 go_wp2
 go_ret
 exact⟨rfl,HB.drew⟩
variable (vs x) in
theorem Df:(vs.flatMap λx=>x.cells.toList)++x.cells.toList=(vs++[x]).flatMap λx=>x.cells.toList:=χ
def av.grow {te:TypeId}{w w1 w2 w3:World}{v:Value}{tk g cap:Nat} (h:av te size w p mb v vs tk) (hb:Below w.heap.size w w1) (h2:w2=setBlock w1 mb (.map (bW (vs++[x])) (vs++[x]).length))
  (hc:w3.cell? ⟨p,1,none⟩=some (.slice (some ⟨g,0,none⟩) (vs.length+1) cap)) (ho:w3.ownsRow 0 te size (.slice (some ⟨g,0,none⟩) (vs.length+1) cap) (vs.length+1) ((vs.flatMap λx=>x.cells.toList)++x.cells.toList))
  (hg:g≠p) (hf:v.ownBlock=some g\/w2.heap.size<=g) (ha:Ap p 1 v.ownBlock w2 w3) :
  av te size w3 p mb (.slice (some ⟨g,0,none⟩) (vs.length+1) cap) (vs++[x]) tk/\(v.ownBlock=some g\/w.heap.size<=g)/\cd (cZ p mb v) w w3:=by
 have h1:=h.keep (λb a=>hb.block b (h.lt a));obtain⟨q1,q2,q3,q4,q5,q6,q7,q8⟩:=h1.put x;rw[<-h2] at q1 q2 q3 q4 q5 q6;have hs:w2.heap.size=w1.heap.size:=by rw[h2];simp[setBlock]
 have d:=hb.size;have e2:cd (cZ p mb v) w w2:=by rw[h2];exact(cd.of_below _ hb).setBlock (.inr (.inl rfl)) _
 have c:x.cells.size=size:=by
  have e1:=ho.1;rw[length_append,Fe h.sz,Nat.add_mul] at e1;simp at e1;omega
 refine⟨⟨?_,hc,?_,λo=>(ha.fz o).trans (q3 o),?_,?_,?_,?_,?_⟩,?_,e2.trans (ha.exc.mono λb _ a=>?_)⟩
 .rw[ha.cell 0 ω,q2];exact h1.c0
 .rw[ha.cell 2 ω,q2];exact h1.c2
 .rw[ha.block mb (by rw[hs];exact h1.lt (.inr (.inl rfl))) (Ne.symm q7) (Ne.symm q8)];exact q5
 .rw[length_append];rw[Df] at ho;exact ho
 .simp[Value.ownBlock];exact hg
 .have:=h.tl;simp;omega
 .intro y hy;rcases mem_append.1 hy with hy|hy
  .exact h.sz y hy
  .simp at hy;subst hy;exact c
 .rcases hf with hf|hf
  .exact .inl hf
  .exact .inr ω
 .rcases a with a|a
  .exact .inl a
  .exact .inr (.inr a)
def Fk (w:World) (p mb:Nat) (v:Value) (vs:List Value) (tk:Nat) (x0 x1 x2 x3:Nat) (b:Bool) (h:av 244 5 w p mb v vs tk) (hn:vs.length<=1048576)
  (hr:∀ w1:World,w1.heap[mb]?=w.heap[mb]?->(Instr.lookup 293 (.map (some mb)) (mi x0 x1 x2 x3 b) true).run prog w1=.ok (.tuple #[.int .i64 0,.bool false]) w1)
  (hu:∀ w1:World,w1.heap[mb]?=w.heap[mb]?->(Instr.mapUpdate 293 (.map (some mb)) (mi x0 x1 x2 x3 b) (.int .i64 (vs.length:Int))).run prog w1=.ok () (setBlock w1 mb (.map (bW (vs++[mi x0 x1 x2 x3 b])) (vs++[mi x0 x1 x2 x3 b]).length))) :
  Calls prog 130 #[.pointer (some ⟨p,0,none⟩),mi x0 x1 x2 x3 b] w λe w'=>e=.returned (.int .i64 (vs.length:Int)) /\
   ∃ g c,av 244 5 w' p mb (.slice (some ⟨g,0,none⟩) (vs.length+1) c) (vs++[mi x0 x1 x2 x3 b]) tk/\(v.ownBlock=some g\/w.heap.size<=g)/\cd (cZ p mb v) w w':=by
 obtain⟨w1,m⟩:=zx (w.alloc (.cells #[.int .u64 (x0:Int),.int .u64 (x1:Int),.int .u64 (x2:Int),.int .u64 (x3:Int),.bool b] 244));have f:Below w.heap.size w w1:=by rw[m];exact ZA
 have G:=cell_below f h.c0;have hx:w1.heap[w.heap.size]?=some (.cells #[.int .u64 (x0:Int),.int .u64 (x1:Int),.int .u64 (x2:Int),.int .u64 (x3:Int),.bool b] 244):=by rw[m];exact Za w _
 have l:=f.block mb (h.lt (.inr (.inl rfl)));have F:=hr w1.drew l;have E:(Builtin.len_ #[293] 3 #[.map (some mb)]).run prog w1.drew=.ok (.int .i64 (vs.length:Int)) w1.drew:=lj _ underlying293 (show w1.heap[mb]?=_ by rw[l];exact h.mp);obtain⟨w2,d⟩:=zx (setBlock w1.drew.drew mb (.map (bW (vs++[mi x0 x1 x2 x3 b])) (vs++[mi x0 x1 x2 x3 b]).length));have u:=hu w1.drew.drew l;rw[<-d] at u;have A:=h.lt (.inr (.inl rfl));have t:∀ k,k≠mb->w2.heap[k]?=w1.heap[k]?:=λk hk=>by rw[d];simp[setBlock,Ne.symm hk];rfl
 have j:w2.heap[w.heap.size]?=some (.cells #[.int .u64 (x0:Int),.int .u64 (x1:Int),.int .u64 (x2:Int),.int .u64 (x3:Int),.bool b] 244):=by rw[t _ ω];exact hx
 obtain⟨y0,y1,y2,y3,y4⟩:=fQ hx;obtain⟨z0,z1,z2,z3,z4⟩:=fQ j;have h1:av 244 5 w1.drew.drew p mb v vs tk:=h.keep (λk hk=>f.block k (h.lt hk));obtain⟨q1,q2,q3,q4,q5,q6,q7,q8⟩:=h1.put (mi x0 x1 x2 x3 b);rw[<-d] at q1 q2 q3 q4 q5 q6;have r:=λ(w9:World) (e9:∀ k,w9.heap[k]?=w2.heap[k]?)=>Dc w9 p 1 v vs.length (vs.flatMap λx=>x.cells.toList) x0 x1 x2 x3 b (by rw[<-q1];simp[cell?,e9]) (by rw[<-q3 1];simp[frozen?,e9]) h1.ne (ak q4 (λk _=>e9 k)) hn
 have z:Hid (∀(w9:World) (e9:∀ k,w9.heap[k]?=w2.heap[k]?),Calls prog 180 #[.pointer (some ⟨p,1,none⟩),mi x0 x1 x2 x3 b] w9 λe w'=>e=.returned (.tuple #[])/\∃ g c,w'.cell? ⟨p,1,none⟩=some (.slice (some ⟨g,0,none⟩) (vs.length+1) c) /\
   w'.ownsRow 0 244 5 (.slice (some ⟨g,0,none⟩) (vs.length+1) c) (vs.length+1) ((vs.flatMap λx=>x.cells.toList)++(mi x0 x1 x2 x3 b).cells.toList)/\g≠p/\(v.ownBlock=some g\/w9.heap.size<=g)/\Ap p 1 v.ownBlock w9 w'):=r
 have C:Hid (∀ w3:World,Ap p 1 v.ownBlock w2.drew w3->w3.heap[w.heap.size]?=some (.cells #[.int .u64 (x0:Int),.int .u64 (x1:Int),.int .u64 (x2:Int),.int .u64 (x3:Int),.bool b] 244)):=λw3 a=>by
  rw[a.block w.heap.size ((ZC j)) (η (h.lt (.inl rfl))) (λe=>by have:=de h.own e.symm;omega)];exact j
 obtain⟨nv,y⟩:=zx vs.length;have HH:=zh h;have B:=zh y;rw[<-y] at E u ⊢;have HW:=zh m;have HB:=zh f.drew.drew;have D:=zh d;clear m hx j f h hr hu d l t h1 q1 q2 q3 q4 q5 q6 q7 q8 r y hn A
 go_enter func130,ntmps130
 go_wp2
 rw[<-HW.out]
 go_region
 go_wp2
 go_region_law (refine step_mapUpdate _ (by rfl) (.tmp 26) (.tmp 27) (.tmp 28) 293 (by rfl) _ _ _ (by rfl) (by rfl) (by rfl) _ u ?_)
 all_goals go_wp2
 all_goals go_region_held3 (λw'=>w'.cell? ⟨w.heap.size,0,none⟩=some (.int .u64 (x0:Int))/\w'.cell? ⟨w.heap.size,1,none⟩=some (.int .u64 (x1:Int))/\w'.cell? ⟨w.heap.size,2,none⟩=some (.int .u64 (x2:Int))/\w'.cell? ⟨w.heap.size,3,none⟩=some (.int .u64 (x3:Int))/\w'.cell? ⟨w.heap.size,4,none⟩=some (.bool b)) (go_keep) ((go_at_call 180;refine(z w2.drew (λk=>rfl)).mono ?_;rintro e w3 ⟨rfl,g,c,a1,a2,a3,a4,a5⟩;obtain⟨r0,r1,r2,r3,r4⟩:=fQ (C w3 a5);have HN:Hid (∃ g c,av 244 5 w3 p mb (.slice (some ⟨g,0,none⟩) (nv+1) c) (vs++[mi x0 x1 x2 x3 b]) tk/\(v.ownBlock=some g\/w.heap.size<=g)/\cd (cZ p mb v) w w3):=(by rw[B.out];exact⟨g,c,HH.grow HB D a1 a2 a3 a4 ⟨a5.os,a5.tape,a5.output,a5.size,a5.block,a5.cell,a5.fz⟩⟩);clear a1 a2 a3 a4 a5))
 all_goals go_wp2
 all_goals go_ret
 all_goals exact⟨rfl,HN⟩
def av.took {te:TypeId}{v:Value} (h:av te size w p mb v vs tk) (hl:tk<vs.length):av te size (w.setCell ⟨p,2,none⟩ (.int .i64 ((tk:Int)+1))) p mb v vs (tk+1):=by
 have a:p≠mb:=by
  rintro rfl;have:=h.c0;simp[cell?,h.mp] at this
 refine⟨?_,?_,?_,λo=>?_,?_,ak h.own (λb e=>ah _ _ _ _ (by rintro rfl;exact h.ne e)),h.ne,ω,h.sz⟩
 .rw[<-h.c0];simp[go_sem]
 .rw[<-h.c1];simp[go_sem]
 .simp[go_sem,h.c2]
 .rw[<-h.fz o];simp[go_sem]
 .rw[ah _ _ _ _ (Ne.symm a)];exact h.mp
def ku {v:Value}{e:TypeId} (h:w.ownsRow base e size v n xs):∃ a c,v=.slice a n c:=by
 rcases h.2 with⟨rfl,rfl⟩|⟨g,b,d,rfl,_⟩
 .exact⟨_,_,rfl⟩
 .exact⟨_,_,rfl⟩
def kw (w:World) (q:Nat) (a0 a1 a2 a3 a4:Value)  (h:k≠q):(((((w.setCell ⟨q,0,none⟩ a0).setCell ⟨q,1,none⟩ a1).setCell ⟨q,2,none⟩ a2).setCell ⟨q,3,none⟩ a3).setCell ⟨q,4,none⟩ a4).heap[k]?=w.heap[k]?:=by
 rw[ah _ _ _ _ h,ah _ _ _ _ h,ah _ _ _ _ h,ah _ _ _ _ h,ah _ _ _ _ h]
def av.drew2 {te:TypeId}{v:Value} (h:av te size w p mb v vs tk):av te size w.drew.drew p mb v vs tk:=h.keep (λ_ _=>rfl)
def iN {v:Value} (hs:S p):cd S w (w.setCell ⟨p,o,none⟩ v):=
 ⟨rfl,rfl,rfl,by simp[World.setCell],λb _ hb=>ah _ _ _ _ (by rintro rfl;exact hb hs)⟩
def Θ {P U:Prop} (h:U) (k:U->P:=by intro h;(repeat first|(with_reducible refine Below.setCell ?_ φ _)|(with_reducible refine Below.alloc ?_ θ _)|(with_reducible refine Below.drew ?_));exact h):P:=k h
def wP (w:World) (p mb:Nat) (v:Value) (vs:List Value) (h:av 244 5 w p mb v vs vs.length) :
  Calls prog 181 #[.pointer (some ⟨p,1,none⟩)] w λe w'=>e=.returned (.tuple #[mi 0 0 0 0 false,.bool false])/\Below w.heap.size w w':=by
 obtain⟨a,c,hv⟩:=ku h.own;obtain⟨w1,b⟩:=zx (w.alloc (.cells #[.int .u64 0,.int .u64 0,.int .u64 0,.int .u64 0,.bool false] 244));have d:Below w.heap.size w w1:=by rw[b];exact ZA
 have c1:=cell_below d h.c1;have c2:=cell_below d h.c2;rw[hv] at c1;have j:w.heap.size<w1.heap.size:=by rw[b];simp
 have hx:w1.heap[w.heap.size]?=some (.cells #[.int .u64 0,.int .u64 0,.int .u64 0,.int .u64 0,.bool false] 244):=by rw[b];exact Za w _
 obtain⟨y0,y1,y2,y3,y4⟩:=fQ hx;have l:∀ o,w1.frozen? ⟨w.heap.size,o,none⟩=false:=λo=>by simp[frozen?,hx]
 obtain⟨nv,f⟩:=zx vs.length;rw[<-f] at c1 c2;have HW:=zh b;have HB:=zh d;clear h f hv b d hx
 go_enter func181,ntmps181
 go_wp2
 rw[<-HW.out]
 go_region
 go_wp2
 refine Zb (v:=.tuple #[mi 0 0 0 0 false,.bool false]) ?_ rfl ⟨rfl,?_⟩
 .simp[results,results181,go_sem,y0,y1,y2,y3,y4,j]
 .have:=HB;exact((Θ this))
def wQ (w:World) (p mb:Nat) (v:Value) (vs:List Value) (tk:Nat) (x0 x1 x2 x3:Nat) (b:Bool) (h:av 244 5 w p mb v vs tk) (hx:vs[tk]?=some (mi x0 x1 x2 x3 b)) (hn:vs.length<=1048576) :
  Calls prog 181 #[.pointer (some ⟨p,1,none⟩)] w λe w'=>e=.returned (.tuple #[mi x0 x1 x2 x3 b,.bool true])/\av 244 5 w' p mb v vs (tk+1)/\cd (cZ p mb v) w w':=by
 obtain⟨w1,c⟩:=zx (w.alloc (.cells #[.int .u64 0,.int .u64 0,.int .u64 0,.int .u64 0,.bool false] 244));have f:Below w.heap.size w w1:=by rw[c];exact ZA
 have h1:=h.keep (λk hk=>f.block k (h.lt hk));have l:=(List.getElem?_eq_some_iff.1 hx).1;obtain⟨g,G,hv,a⟩:=h1.at hx ω;have c1:=h1.c1;have c2:=h1.c2;have f2:=h1.fz 2;rw[hv] at c1;have k0:=a 0 ω;have k1:=a 1 ω;have k2:=a 2 ω;have k3:=a 3 ω;have k4:=a 4 ω;simp[Value.cells] at k0 k1 k2 k3 k4;have B:g≠p:=by have:=h.ne;rw[hv] at this;simp[Value.ownBlock] at this;exact this
 have A:g<w.heap.size:=h.lt (.inr (.inr (by rw[hv];rfl)));have r:p<w.heap.size:=h.lt (.inl rfl);have I:w.heap.size<w1.heap.size:=by rw[c];simp
 have d:w1.heap[w.heap.size]?=some (.cells #[.int .u64 0,.int .u64 0,.int .u64 0,.int .u64 0,.bool false] 244):=by rw[c];exact Za w _
 obtain⟨y0,y1,y2,y3,y4⟩:=fQ d;have K:∀ o,w1.frozen? ⟨w.heap.size,o,none⟩=false:=λo=>by simp[frozen?,d]
 have z:g≠w.heap.size:=ω;have y:p≠w.heap.size:=ω;have H:=Ne.symm z;have m:=Ne.symm y;have J:=Ne.symm B;obtain⟨nv,j⟩:=zx vs.length;have E:(tk:Int)<nv:=ω;have F:((tk:Int)==nv)=false:=σ;have D:tk<=1048576:=ω;have C:=zh l;rw[<-j] at c1;have u:=zh h1;have t:Hid (∀ {b},cZ p mb v b->b<w.heap.size):=λ{b}=>h.lt
 have HW:=zh c;have HB:=zh f;clear h j hv c f d a h1 hx l hn A r
 go_enter func181,ntmps181
 go_wp2
 rw[<-HW.out]
 go_region
 go_wp2
 go_region
 go_wp2
 refine Zb (v:=.tuple #[mi x0 x1 x2 x3 b,.bool true]) ?_ rfl ⟨rfl,?_,?_⟩
 .simp[results,results181,go_sem,y0,y1,y2,y3,y4,m]
 .exact av.drew2 ((u.took C).keep (λk hk=>(kw (w1.setCell ⟨p,2,none⟩ (.int .i64 ((tk:Int)+1))) w.heap.size (.int .u64 (x0:Int)) (.int .u64 (x1:Int)) (.int .u64 (x2:Int)) (.int .u64 (x3:Int)) (.bool b) (k:=k) (η (t hk)))))
 .have e1:cd (cZ p mb v) w (w1.setCell ⟨p,2,none⟩ (.int .i64 ((tk:Int)+1))):=(cd.of_below _ HB).trans (iN (.inl rfl));exact cd.drew (cd.drew ⟨e1.os,e1.tape,e1.output,by simp[World.setCell];omega,λk hk hs=>(kw (w1.setCell ⟨p,2,none⟩ (.int .i64 ((tk:Int)+1))) w.heap.size (.int .u64 (x0:Int)) (.int .u64 (x1:Int)) (.int .u64 (x2:Int)) (.int .u64 (x3:Int)) (.bool b) (k:=k) ω).trans (e1.block k hk hs)⟩)
theorem cQ (w:World) (a:Addr) (v:Value):(w.setCell a v).heap.size=w.heap.size:=by simp[World.setCell]
structure fZ where
 x0:Nat
 x1:Nat
 x2:Nat
 x3:Nat
 ends:Bool
 deriving DecidableEq
structure fZ.ok (s:fZ):Prop where
 l0:s.x0<18446744073709551616
 l1:s.x1<18446744073709551616
 l2:s.x2<18446744073709551616
 l3:s.x3<18446744073709551616
def fZ.v (s:fZ):Value:=mi s.x0 s.x1 s.x2 s.x3 s.ends
theorem fZ.v_inj {s t:fZ} (h:s.v=t.v):s=t:=by
 obtain⟨a0,a1,a2,a3,a4⟩:=s;obtain⟨b0,b1,b2,b3,b4⟩:=t;simp[fZ.v] at h;simp only[fZ.mk.injEq];obtain⟨h0,h1,h2,h3,h4⟩:=h;exact⟨ω,ω,ω,ω,h4⟩
def aq {α:Type} [DecidableEq α] (l:List α) (x:α):List α:=if x∈l then l else l++[x]
def bE {α:Type} [DecidableEq α] {l:List α} (h:l.Nodup) {x:α} (hi:l[i]?=some x):l.idxOf x=i:=by
 obtain⟨hl,rfl⟩:=List.getElem?_eq_some_iff.1 hi;exact h.idxOf_getElem i hl
def gF {α:Type} [DecidableEq α] {l:List α} (h:l.Nodup) (x:α):(aq l x).Nodup:=by
 unfold aq
 split
 .exact h
 .rename_i hx;exact nodup_append.2 ⟨h,χ,λa ha b hb=>by simp at hb;subst hb;rintro rfl;exact hx ha⟩
def Ij {l:List fZ}{s:fZ} (h:(l.map fZ.v)[i]?=some s.v):l[i]?=some s:=by
 rw[getElem?_map] at h;obtain⟨y,hy,e⟩:=Option.map_eq_some_iff.1 h;rw[hy,fZ.v_inj e]
def Br {l:List fZ}{s:fZ}:s.v∈l.map fZ.v↔s∈l:=
 ⟨λh=>by obtain⟨y,hy,e⟩:=mem_map.1 h;rw[<-fZ.v_inj e];exact hy,λh=>mem_map_of_mem h⟩
def wR (w:World) (p mb:Nat) (v:Value) (l:List fZ) (tk:Nat) (s:fZ) (h:av 244 5 w p mb v (l.map fZ.v) tk) (hl:∀ y∈l,y.ok) (hs:s.ok) (hn:l.length<=1048576) (hd:l.Nodup) :
  Calls prog 130 #[.pointer (some ⟨p,0,none⟩),s.v] w λe w'=>e=.returned (.int .i64 (((aq l s).idxOf s:Nat):Int)) /\
   ∃ v',av 244 5 w' p mb v' ((aq l s).map fZ.v) tk/\(∀ g,v'.ownBlock=some g->v.ownBlock=some g\/w.heap.size<=g)/\cd (cZ p mb v) w w':=by
 have a:∀ y∈l.map fZ.v,∃ q,keyOf prog 244 y=some q:=λy hy=>by
  obtain⟨z,hz,rfl⟩:=mem_map.1 hy;have:=hl z hz;exact tn _ _ _ _ _ this.l0 this.l1 this.l2 this.l3
 have hk:∃ q,keyOf prog 244 s.v=some q:=tn _ _ _ _ _ hs.l0 hs.l1 hs.l2 hs.l3
 by_cases hm:s∈l
 .obtain⟨i,hi⟩:=mem_iff_getElem?.1 hm;have c:(l.map fZ.v)[i]?=some s.v:=by rw[getElem?_map,hi];rfl
  refine(Fj w p mb v (l.map fZ.v) tk s.x0 s.x1 s.x2 s.x3 s.ends i h c (λw1 e1=>?_)).mono ?_
  .rcases gE (x:=s.v) kt underlying293 (JC w1) (e1.trans h.mp) a hk with⟨h1,_⟩|⟨j,h1,h2⟩
   .exact absurd (Br.2 hm) h1
   .have e3:=bE hd (Ij h1);rw[bE hd hi] at e3;subst e3;exact h2
  .rintro e w' ⟨rfl,hb⟩;have e3:=bE hd hi;simp only[aq,Zi hm,e3,true_and];exact⟨v,h.keep (λk hk=>hb.block k (h.lt hk)),λg hg=>.inl hg,cd.of_below _ hb⟩
 .have b:s.v ∉ l.map fZ.v:=λq=>hm (Br.1 q)
  refine(Fk w p mb v (l.map fZ.v) tk s.x0 s.x1 s.x2 s.x3 s.ends h (by simpa using hn) (λw1 e1=>?_) (λw1 e1=>?_)).mono ?_
  .rcases gE (x:=s.v) kt underlying293 (JC w1) (e1.trans h.mp) a hk with⟨_,h1⟩|⟨j,h1,h2⟩
   .exact h1
   .exact absurd (mem_of_getElem? h1) b
  .exact py kt underlying293 (e1.trans h.mp) a hk b
  .rintro e w' ⟨rfl,g,d,h1,h2,h3⟩;have e3:(l++[s]).idxOf s=l.length:=bE (by have:=gF hd s;rwa [aq,Zh hm] at this) χ;simp only[aq,Zh hm,e3,length_map,true_and];refine⟨.slice (some ⟨g,0,none⟩) ((l.map fZ.v).length+1) d,?_,?_,h3⟩
   .rw[map_append];exact h1
   .intro q hq;simp[Value.ownBlock] at hq;subst hq;exact h2
def wT (w:World) (p mb:Nat) (v:Value) (vs:List Value) (h:av 244 5 w p mb v vs vs.length) :
  Calls prog 131 #[.pointer (some ⟨p,0,none⟩)] w λe w'=>e=.returned (.tuple #[mi 0 0 0 0 false,.bool false])/\Below w.heap.size w w':=by
 obtain⟨w1,a⟩:=zx (w.alloc (.cells #[.int .u64 0,.int .u64 0,.int .u64 0,.int .u64 0,.bool false] 244));have c:Below w.heap.size w w1:=by rw[a];exact ZA
 have ht:=wP w1 p mb v vs (h.keep (λk hk=>c.block k (h.lt hk)));have f:w.heap.size<w1.heap.size:=by rw[a];simp
 have d:w1.heap[w.heap.size]?=some (.cells #[.int .u64 0,.int .u64 0,.int .u64 0,.int .u64 0,.bool false] 244):=by rw[a];exact Za w _
 have HX:Hid (∀ w2,Below w1.heap.size w1 w2->w2.heap[w.heap.size]?=some (.cells #[.int .u64 0,.int .u64 0,.int .u64 0,.int .u64 0,.bool false] 244)):=λw2 b2=>(b2.block _ f).trans d
 have HW:=zh a;have HB:=zh c
 go_enter func131,ntmps131
 go_wp2_with (go_at_call 181;rw[<-HW.out];refine ht.mono ?_;rintro e w2 ⟨rfl,b⟩;obtain⟨y0,y1,y2,y3,y4⟩:=fQ (HX w2 b);have l:∀ o,w2.frozen? ⟨w.heap.size,o,none⟩=false:=(λo=>by simp[frozen?,HX.out w2 b]);have j:=zh (HB.trans (b.mono HB.size)))
 refine Zb (v:=.tuple #[mi 0 0 0 0 false,.bool false]) ?_ rfl ⟨rfl,?_⟩
 .simp[results,results131,go_sem,y0,y1,y2,y3,y4]
 .have:=j;exact((Θ this))
def wU (w:World) (p mb:Nat) (v:Value) (vs:List Value) (tk:Nat) (x0 x1 x2 x3:Nat) (b:Bool) (h:av 244 5 w p mb v vs tk) (hx:vs[tk]?=some (mi x0 x1 x2 x3 b)) (hn:vs.length<=1048576) :
  Calls prog 131 #[.pointer (some ⟨p,0,none⟩)] w λe w'=>e=.returned (.tuple #[mi x0 x1 x2 x3 b,.bool true])/\av 244 5 w' p mb v vs (tk+1)/\cd (cZ p mb v) w w':=by
 obtain⟨w1,a⟩:=zx (w.alloc (.cells #[.int .u64 0,.int .u64 0,.int .u64 0,.int .u64 0,.bool false] 244));have d:Below w.heap.size w w1:=by rw[a];exact ZA
 have ht:=wQ w1 p mb v vs tk x0 x1 x2 x3 b (h.keep (λk hk=>d.block k (h.lt hk))) hx hn;have r:w.heap.size<w1.heap.size:=by rw[a];simp
 have f:w1.heap[w.heap.size]?=some (.cells #[.int .u64 0,.int .u64 0,.int .u64 0,.int .u64 0,.bool false] 244):=by rw[a];exact Za w _
 have m:Hid (∀ {b},cZ p mb v b->b<w.heap.size):=λ{b}=>h.lt
 have HX:Hid (∀ w2,cd (cZ p mb v) w1 w2->w2.heap[w.heap.size]?=some (.cells #[.int .u64 0,.int .u64 0,.int .u64 0,.int .u64 0,.bool false] 244)):=λw2 b2=>(b2.block _ r (λq=>by have:=h.lt q;omega)).trans f
 have HW:=zh a;have HB:Hid (cd (cZ p mb v) w w1):=cd.of_below _ d;clear a d f h hx hn
 go_enter func131,ntmps131
 go_wp2_with (go_at_call 181;rw[<-HW.out];refine ht.mono ?_;rintro e w2 ⟨rfl,j,c⟩;obtain⟨y0,y1,y2,y3,y4⟩:=fQ (HX w2 c);have u:∀ o,w2.frozen? ⟨w.heap.size,o,none⟩=false:=(λo=>by simp[frozen?,HX.out w2 c]);have t:=zh (HB.trans c);have l:=zh j;clear c j)
 refine Zb (v:=.tuple #[mi x0 x1 x2 x3 b,.bool true]) ?_ rfl ⟨rfl,?_,?_⟩
 .simp[results,results131,go_sem,y0,y1,y2,y3,y4]
 .exact l.keep (λk hk=>kw w2 w.heap.size (.int .u64 (x0:Int)) (.int .u64 (x1:Int)) (.int .u64 (x2:Int)) (.int .u64 (x3:Int)) (.bool b) (η (m hk)))
 .have e1:=t;exact⟨e1.os,e1.tape,e1.output,by simp only[cQ];exact e1.size,λk hk hs=>(kw w2 w.heap.size (.int .u64 (x0:Int)) (.int .u64 (x1:Int)) (.int .u64 (x2:Int)) (.int .u64 (x3:Int)) (.bool b) ω).trans (e1.block k hk hs)⟩
end Go.Proofs.YtbjabpodkaokjaaGreatDoor

import Derived.Test.YtbjabpodkaokjaaGreatDoorCC09
import Derived.Test.YtbjabpodkaokjaaGreatDoorCC11
set_option linter.all false
set_option maxHeartbeats 4000000
set_option maxRecDepth 100000
open List Nat Go.World Go.Proofs.Tryz
namespace Go.Proofs.YtbjabpodkaokjaaGreatDoor
open Go.RowKit Go.Shelf
variable {w:World}{sb:Nat}{vb vf:Value}{q:Nat}{e:Ex}{p:Pc}{H:Nat}{W w':World}{b base:Nat}{v:Value}{w1:World}{fs:List W4}{vb1 vf1:Value}{fr:Nat×Nat}{wa w4:World}{g:Nat}{s:W4}{B:Nat}{W':World}{k:Nat}{w0:World}{bs:List (Nat->Bool)}{o:Nat}{w2:World}{cs:Array Value}{off n:Nat}{x:W4}{S:Nat->Bool}{gv:Value}
attribute [local go_sem] Oper.semAt_some
def oQ (n:Nat) (hn:2<=n) (q:Nat) (s:W4) (hs:s.ok) (w0:World) (hT:TabZ w0)
  (hq:w0.heap[q]?=some (.cells #[.int .u64 (s.x0:Int),.int .u64 (s.x1:Int),.int .u64 (s.x2:Int),.int .u64 (s.x3:Int)] 150)) :
  SeqStopsK Fence.wide n prog 200 #[.pointer (some ⟨q,0,none⟩)] (λx:{x:Nat // x∈s.all}=>#[Value.int .u8 (x.val:Int)]) (Kz q) (λxs=>xs.map Subtype.val=s.all) (λpre=>pre.map Subtype.val <+: s.all) s.all.length w0:=λl J Jx W hW hJ hJx hY h0=>
 FC n hn l q s hs J Jx W hJ hJx hY (hT.keep (hW.block 1 hT.lt)) ((hW.block q (ZC hq)).trans hq) h0
def Lr (hq:q<w.heap.size) (h1:1<w.heap.size) (W:World) (l:Nat) (o o':Obj) (hl:w.heap.size<=l) (h2:W.heap[l]?=some o) (h3:o.isCells=false) (h4:o.isWalk=false):Kz q W (W.putObj l o'):=by
 have hb:=belowK_b zq W l o o' hl h2 h3 h4;exact⟨hb.size,hb.block 1 h1,hb.block q hq⟩
def oR {β:Type}{S:Nat->Prop} (hB:w0.heap.size<=B):OwnFrom B (λ(_:β) W=>cd S w0 W):=λs W W' row hs hg hr=>
 ⟨hg.os.trans hs.os,hg.tape.trans hs.tape,hg.output.trans hs.output,Zc hs.size hg.size,λb hb hS=>(hg.block b (Zd hb hs.size) (λe=>by have:=(hr b e.symm).1;omega)).trans (hs.block b hb hS)⟩
def F_ {te:TypeId}{row:Option Nat} (h:dq te W base v fs) (hg:W.grownBy W' row) (hr:∀ r,row=some r->∃ o:Obj,W.heap[r]?=some o/\o.isCells=false):dq te W' base v fs:=by
 refine h.blk (λb hb=>hg.block b (h.lt hb).2 (λe=>?_));obtain⟨o,h1,h2⟩:=hr b e.symm;rcases h.2 with⟨rfl,_⟩|⟨g,c,a,rfl,_,h3,_⟩
 .simp[Value.ownBlock] at hb
 .simp[Value.ownBlock] at hb;subst hb;rw[h3] at h1;simp at h1;subst h1;cases h2
variable (w sb base v fs) in
def DF (ls fr:W4) (hT:TabZ w) (c1:w.cell? ⟨sb,1,none⟩=some v) (h:dq 150 w base v fs) (hb1:1<base) (hsb:sb<base) (hl:ls.ok) (hf:fr.ok) (hok:∀ x∈fs,x.ok) (hr:∀ i∈ls.all,i<fs.length) :
  CallsIn Fence.wide 8 prog 197 #[.pointer (some ⟨sb,0,none⟩),ls.v,fr.v] w λe w'=>e=.returned (.tuple #[])/\dq 150 w' base v (Ho fs ls fr)/\cd (λb=>v.ownBlock=some b) w w':=by
 have HH:=zh h;have HT:=zh hT;have HC:=zh c1;clear h hT c1;refine callsIn_of_wp_marks func197 rfl trivial ?_ rfl;simp only[ntmps197,size_toArray,length_cons,length_nil,reduceAdd,reduceSub,Array.replicate_succ,Array.replicate_zero,push_toArray,append_toArray,nil_append,cons_append];simp only[W4.v]
 gi_wp2_with (refine⟨trivial,?_⟩;gi_at_call 184;refine(all_in _ ls _).mono ?_;rintro e w' ⟨rfl,N⟩;subst N)
 obtain⟨w0,u⟩:=zx ((((w.alloc (.cells #[.pointer (some ⟨sb,0,none⟩)] 233)).alloc (.cells #[.int .u64 (ls.x0:Int),.int .u64 (ls.x1:Int),.int .u64 (ls.x2:Int),.int .u64 (ls.x3:Int)] 150)).alloc (.cells #[.int .u64 (fr.x0:Int),.int .u64 (fr.x1:Int),.int .u64 (fr.x2:Int),.int .u64 (fr.x3:Int)] 150)).alloc (.cells #[.int .u64 (ls.x0:Int),.int .u64 (ls.x1:Int),.int .u64 (ls.x2:Int),.int .u64 (ls.x3:Int)] 150));have E:Below w.heap.size w w0:=by rw[u];exact((((Below.refl _ w).alloc zq _).alloc χ _).alloc σ _).alloc σ _
 have a3:w0.heap.size=w.heap.size+4:=by rw[u];simp
 have j0:w0.heap[w.heap.size]?=some (.cells #[.pointer (some ⟨sb,0,none⟩)] 233):=by rw[u,Ze _ _ _ σ];exact IG w _ _ _
 have j2:w0.heap[w.heap.size+2]?=some (.cells #[.int .u64 (fr.x0:Int),.int .u64 (fr.x1:Int),.int .u64 (fr.x2:Int),.int .u64 (fr.x3:Int)] 150):=by rw[u,Ze _ _ _ χ];exact JM w _ _ _
 have j3:w0.heap[w.heap.size+3]?=some (.cells #[.int .u64 (ls.x0:Int),.int .u64 (ls.x1:Int),.int .u64 (ls.x2:Int),.int .u64 (ls.x3:Int)] 150):=by
  rw[u];have:=Za (((w.alloc (.cells #[.pointer (some ⟨sb,0,none⟩)] 233)).alloc (.cells #[.int .u64 (ls.x0:Int),.int .u64 (ls.x1:Int),.int .u64 (ls.x2:Int),.int .u64 (ls.x3:Int)] 150)).alloc (.cells #[.int .u64 (fr.x0:Int),.int .u64 (fr.x1:Int),.int .u64 (fr.x2:Int),.int .u64 (fr.x3:Int)] 150)) (.cells #[.int .u64 (ls.x0:Int),.int .u64 (ls.x1:Int),.int .u64 (ls.x2:Int),.int .u64 (ls.x3:Int)] 150)
  simpa using this
 rw[<-u];have y:∀ b,v.ownBlock=some b->base<=b/\b<w.heap.size:=λb hb=>HH.lt hb
 have V:=HH.blk (λb hb=>E.block b (y b hb).2);have a2:=aF HC;have T:=HT.lt;have U:=cell_below E HC;have O:=zh E;clear u;refine wpIn_rangeFunc_ownF (α:={x:Nat // x∈ls.all}) rfl ω (gf:=200) (lb:=#[.pointer (some ⟨w.heap.size+3,0,none⟩)]) rfl trivial (enters_of func200 κ rfl)
  (oQ (8-1) ω (w.heap.size+3) ls hl w0 (HT.keep (E.block 1 T)) j3) (λh k=>h.trans k) (Lr ω ω) ZB (λ_=>rfl)
  (λd W=>dq 150 W base v (BI fs (d.map Subtype.val) fr)/\cd (λb=>v.ownBlock=some b) w0 W)
  (λ_ _ _=>False)
  (OwnFrom.and (λs A B row hs hg hr=>F_ hs hg (λr e=>(hr r e).2)) (oR zq))
  (λ_ _ _ _ _ hs _ _=>hs)
  ⟨V,cd.refl _ _⟩
  (λx=>{tmps:=#[.pointer (some ⟨sb,0,none⟩),lW ls.x0 ls.x1 ls.x2 ls.x3,lW fr.x0 fr.x1 fr.x2 fr.x3,.pointer (some ⟨w.heap.size,0,none⟩),.pointer (some ⟨w.heap.size+1,0,none⟩),.pointer (some ⟨w.heap.size+1+1,0,none⟩),.int .u8 (x.val:Int),.agg #[.int .u64 (ls.x0:Int),.int .u64 (ls.x1:Int),.int .u64 (ls.x2:Int),.int .u64 (ls.x3:Int)],.func (.func 200) #[] #[.pointer (some ⟨w.heap.size+1+1+1,0,none⟩)],.int .u8 (x.val:Int),undef,undef,undef,undef,undef,undef,undef,undef],defers:=[]}) ?assign ?body ?done ?stop
 case assign=>
  intro l x W K hK
  gi_wp2
  exact hK
 case body=>
  rintro l d x W ⟨z,hE⟩ _;have m:x.val<(BI fs (d.map Subtype.val) fr).length:=by rw[BJ];exact hr _ x.2
  obtain⟨g,C,rfl,a6,J⟩:=z.at m;have hL:=BJ fs (d.map Subtype.val) fr;obtain⟨k,hk⟩:=x
  simp only at m J ⊢
  obtain⟨F,t⟩:=zx (BI fs (d.map Subtype.val) fr);rw[<-t] at m;have a:gG W g (k*4) F[k]:=by simpa [t] using J
  have Z:F[k].ok:=by
   have:=Kw (d.map Subtype.val) hok hf;rw[<-t] at this;exact this _ (Zg _)
  have L:=cK W.drew g (k*4) F[k] fr Z hf ⟨a.c0,a.c1,a.c2,a.c3,a.fz⟩;have P:=zh t;have Q:=zh a;have Y:Hid (dq 150 W base (.slice (some ⟨g,0,none⟩) F.length C) F):=by rw[t];exact z
  have d0:W.cell? ⟨w.heap.size,0,none⟩=some (.pointer (some ⟨sb,0,none⟩)):=by
   have:=hE.block w.heap.size ω (λe=>by have:=(y _ e).2;omega);simp[cell?,this,j0]
  have d1:W.cell? ⟨sb,1,none⟩=some (.slice (some ⟨g,0,none⟩) F.length C):=by
   have:=hE.block sb ω (λe=>by have:=(y _ e).1;omega);rw[t,<-U];simp[cell?,this]
  have e2:=hE.block (w.heap.size+2) ω (λe=>by have:=(y _ e).2;omega);have f0:W.cell? ⟨w.heap.size+1+1,0,none⟩=some (.int .u64 (fr.x0:Int)):=by simp[cell?,e2,j2]
  have f1:W.cell? ⟨w.heap.size+1+1,1,none⟩=some (.int .u64 (fr.x1:Int)):=by simp[cell?,e2,j2]
  have f2:W.cell? ⟨w.heap.size+1+1,2,none⟩=some (.int .u64 (fr.x2:Int)):=by simp[cell?,e2,j2]
  have f3:W.cell? ⟨w.heap.size+1+1,3,none⟩=some (.int .u64 (fr.x3:Int)):=by simp[cell?,e2,j2]
  have a5:(k:Int)<F.length:=ω;have a1:prog.follows .mixedOrders=true:=κ;have a7:=(y g rfl)
  have M:Hid (∀ w2,gG w2 g (k*4) (F[k].or fr)->Sx.Fo g (k*4) W.drew w2->KeepsOthers W w2/\Kz (w.heap.size+3) W w2/\dq 150 w2 base (.slice (some ⟨g,0,none⟩) (BI fs (d.map Subtype.val) fr).length C) (BI fs ((d++[(⟨k,hk⟩:{x:Nat // x∈ls.all})]).map Subtype.val) fr)/\cd (λb=>(Value.slice (some ⟨g,0,none⟩) (BI fs (d.map Subtype.val) fr).length C).ownBlock=some b) w0 w2):=λw2 G j=>by
   have f:Sx.Fo g (k*4) W w2:=⟨⟨j.four.os,j.four.tape,j.four.output,j.four.size,j.four.block,j.four.cell⟩,j.shp⟩
   have a4:=hE.size;refine⟨f.others Q.c0,⟨f.four.size,f.four.block 1 ω ω,f.four.block _ ω ω⟩,?_,?_⟩
   .have:=Y.mod m f G;rw[map_append,map_cons,map_nil,FR,<-P.out,zY _ _ m];exact this
   .refine hE.trans (f.exc.mono (λb _ hb=>?_));subst hb;rfl
  clear J t a z hL
  gi_wp2
  gi_region_with_o (refine⟨trivial,?_⟩;gi_at_call 125;refine(CallsIn.inRound l (callsIn_wide.2 L)).mono ?_;rintro e w2 ⟨rfl,G,j⟩)
  all_goals exact M _ G j
 case done=>
  rintro D ys W hD X ⟨z,hE⟩ hK
  gi_wp2
  refine⟨χ,.inl ⟨_,_,rfl,run_takeDeferred hK,?_⟩⟩;have I:Below w0.heap.size W (W.putObj D (.deferred none)):=belowK_b (w:=w0) zq W D _ _ hD hK rfl rfl;have R:=I.size;refine⟨_,results_none rfl _ _ _,rfl,?_,?_⟩
  .have:Ho fs ls fr=BI fs (ys.map Subtype.val) fr:=by rw[X];rfl
   rw[this];exact z.blk (λb hb=>I.block b (η ((y b hb).2)))
  .have h1:cd (λb=>v.ownBlock=some b) w w0:=cd.of_below _ O;refine⟨hE.os.trans h1.os,hE.tape.trans h1.tape,hE.output.trans h1.output,Zc h1.size (Zc hE.size R),λb hb hS=>?_⟩;rw[I.block b ω];exact(hE.block b ω hS).trans (h1.block b hb hS)
 case stop=>
  rintro D c d W _ _ h _;exact h.elim
variable (w sb base v fs) in
def Ak (ls fr:W4) (hT:TabZ w) (c1:w.cell? ⟨sb,1,none⟩=some v) (h:dq 150 w base v fs) (hb1:1<base) (hsb:sb<base) (hl:ls.ok) (hf:fr.ok) (hok:∀ x∈fs,x.ok) (hr:∀ i∈ls.all,i<fs.length) :
  Calls prog 197 #[.pointer (some ⟨sb,0,none⟩),ls.v,fr.v] w λe w'=>e=.returned (.tuple #[])/\dq 150 w' base v (Ho fs ls fr)/\cd (λb=>v.ownBlock=some b) w w':=callsIn_wide.1 (DF w sb base v fs ls fr hT c1 h hb1 hsb hl hf hok hr)
open Go.RowKit
abbrev ik (p:Pc):Array Value:=#[.int .u64 (p.first.x0:Int),.int .u64 (p.first.x1:Int),.int .u64 (p.first.x2:Int),.int .u64 (p.first.x3:Int),.int .u64 (p.last.x0:Int),.int .u64 (p.last.x1:Int),.int .u64 (p.last.x2:Int),.int .u64 (p.last.x3:Int),.bool p.empty]
abbrev zC:Array Value:=#[.int .u64 0,.int .u64 0,.int .u64 0,.int .u64 0,.int .u64 0,.int .u64 0,.int .u64 0,.int .u64 0,.bool false]
abbrev pE (p:Pc):Value:=.agg (ik p)
def lE (w:World) (p:Pc) :
  Calls prog 210 #[pE p] w λe w'=>e=.returned (pE p.may)/\Below w.heap.size w w':=by
 go_enter func210,ntmps210
 go_wp2
 refine Zb (v:=pE p.may) (by simp[results,results210,go_sem,Pc.may]) rfl ⟨rfl,ZA.alloc χ _⟩
def lP (w:World) (base:Nat) (v:Value) (bs:List (Nat->Bool)):Prop:=∃ ws:List W4,dq 226 w base v ws/\ws.length=bs.length/\∀ i (h:i<ws.length) (h2:i<bs.length),Sx.Wd ws[i].x0 ws[i].x1 ws[i].x2 ws[i].x3 bs[i]
theorem lP.blk (h:lP w base v bs) (hb:∀ b,v.ownBlock=some b->w'.heap[b]?=w.heap[b]?):lP w' base v bs:=by
 obtain⟨ws,h1,h2⟩:=h;exact⟨ws,h1.blk hb,h2⟩
structure ch (w:World) (sb:Nat) (vb vf:Value) (e:Ex):Prop where
 c0:w.cell? ⟨sb,0,none⟩=some vb
 c1:w.cell? ⟨sb,1,none⟩=some vf
 fz:∀ o,w.frozen? ⟨sb,o,none⟩=false
 bs:lP w (sb+1) vb e.bs
 fs:dq 150 w (sb+1) vf e.fs
def eJ (sb:Nat) (vb vf:Value) (b:Nat):Prop:=b=sb\/vb.ownBlock=some b\/vf.ownBlock=some b
theorem ch.lt (h:ch w sb vb vf e)  (hb:eJ sb vb vf b):sb<=b/\b<w.heap.size:=by
 rcases hb with rfl|hb|hb
 .exact⟨zq,aF h.c0⟩
 .obtain⟨ws,h1,_⟩:=h.bs;have:=h1.lt hb;omega
 .have:=h.fs.lt hb;omega
def ch.keep (h:ch w sb vb vf e) (k:∀ b,eJ sb vb vf b->w'.heap[b]?=w.heap[b]?):ch w' sb vb vf e:=by
 have hp:=k sb (.inl rfl);refine⟨?_,?_,λo=>?_,h.bs.blk (λb hb=>k b (.inr (.inl hb))),h.fs.blk (λb hb=>k b (.inr (.inr hb)))⟩
 .rw[<-h.c0];simp[cell?,hp]
 .rw[<-h.c1];simp[cell?,hp]
 .rw[<-h.fz o];simp[frozen?,hp]
def ch.below (h:ch w sb vb vf e) (k:Below w.heap.size w w'):ch w' sb vb vf e:=h.keep (λb hb=>k.block b (h.lt hb).2)
def ch.ne (h:ch w sb vb vf e)  (hb:vb.ownBlock=some b):vf.ownBlock≠some b:=by
 intro hf;obtain⟨ws,h1,_⟩:=h.bs;rcases h1.2 with⟨rfl,_⟩|⟨g,f,d,rfl,_,h2,_⟩
 .simp[Value.ownBlock] at hb
 .rcases h.fs.2 with⟨rfl,_⟩|⟨g',a,c,rfl,_,h3,_⟩
  .simp[Value.ownBlock] at hf
  .simp[Value.ownBlock] at hb hf;subst hb;subst hf;rw[h2] at h3;simp at h3
structure gj (sb:Nat) (w:World) (vb vf:Value) (w':World) (vb' vf':Value):Prop where
 exc:cd (eJ sb vb vf) w w'
 new:∀ b,eJ sb vb' vf' b->eJ sb vb vf b\/w.heap.size<=b
 cl:sb<w.heap.size->∀ o,2<=o->w'.cell? ⟨sb,o,none⟩=w.cell? ⟨sb,o,none⟩
def cP (h:w'.heap[b]?=w.heap[b]?) (o:Nat):w'.cell? ⟨b,o,none⟩=w.cell? ⟨b,o,none⟩:=by simp[cell?,h]
theorem gj.trans {vb vf vb1 vf1 vb2 vf2:Value} (h:gj sb w vb vf w1 vb1 vf1) (g:gj sb w1 vb1 vf1 w2 vb2 vf2):gj sb w vb vf w2 vb2 vf2:=by
 have hs:=h.exc.size;refine⟨⟨g.exc.os.trans h.exc.os,g.exc.tape.trans h.exc.tape,g.exc.output.trans h.exc.output,Zc hs g.exc.size,λb hb hS=>?_⟩,λb hb=>?_,λhb o ho=>(g.cl ω o ho).trans (h.cl hb o ho)⟩
 .refine(g.exc.block b ω (λhf=>?_)).trans (h.exc.block b hb hS);rcases h.new b hf with q|q
  .exact hS q
  .omega
 .rcases g.new b hb with q|q
  .exact h.new b q
  .omega
def gj.below (h:gj sb w vb vf w1 vb1 vf1) (g:Below w1.heap.size w1 w2):gj sb w vb vf w2 vb1 vf1:=
 h.trans ⟨cd.of_below _ g,λb hb=>.inl hb,λhb o _=>cP (g.block sb hb) o⟩
theorem gj.of_below (g:Below w.heap.size w w1):gj sb w vb vf w1 vb vf:=⟨cd.of_below _ g,λb hb=>.inl hb,λhb o _=>cP (g.block sb hb) o⟩
def gj.same (h:gj sb w vb vf w1 vb1 vf1)  (hb:b<w.heap.size) (hn:¬ eJ sb vb vf b):w1.heap[b]?=w.heap[b]?:=h.exc.block b hb hn
theorem ch.join {a b:Pc} (h:ch w sb vb vf e) (hf:dq 150 w' (sb+1) vf (Ho e.fs a.last b.first)) (hx:cd (λb=>vf.ownBlock=some b) w w'):ch w' sb vb vf (e.join a b)/\gj sb w vb vf w' vb vf:=by
 have hp:=hx.block sb (aF h.c0) (λq=>by have:=(h.fs.lt q).1;omega);refine⟨⟨?_,?_,λo=>?_,h.bs.blk (λb hb=>hx.block b (h.lt (.inr (.inl hb))).2 (h.ne hb)),hf⟩,⟨hx.mono (λb _ hb=>.inr (.inr hb)),λb hb=>.inl hb,λ_ o _=>cP hp o⟩⟩
 .rw[<-h.c0];simp[cell?,hp]
 .rw[<-h.c1];simp[cell?,hp]
 .rw[<-h.fz o];simp[frozen?,hp]
variable (w sb vb vf e) in
def oS (a b:Pc) (n:Nat) (hT:TabZ w) (h1:1<sb) (h:ch w sb vb vf e) (hn:n<=64) (he:dE n e) (ha:eE n a) (hb:eE n b) :
  Calls prog 197 #[.pointer (some ⟨sb,0,none⟩),a.last.v,b.first.v] w λr w'=>r=.returned (.tuple #[])/\ch w' sb vb vf (e.join a b)/\gj sb w vb vf w' vb vf:=by
 refine(Ak w sb (sb+1) vf e.fs a.last b.first hT h.c1 h.fs ω ω (ha.l.ok hn) (hb.f.ok hn) (λx hx=>(he.s x hx).ok hn) (λi hi=>by have:=ha.l.lt hn i hi;rw[he.f];exact this)).mono ?_;rintro r w' ⟨rfl,hf,hx⟩;exact⟨rfl,h.join hf hx⟩
def bP {T:TypeId} (h:w.heap[q]?=some (.cells (ik p) T fr)) :
  w.cell? ⟨q,0,none⟩=some (.int .u64 (p.first.x0:Int))/\w.cell? ⟨q,1,none⟩=some (.int .u64 (p.first.x1:Int))/\w.cell? ⟨q,2,none⟩=some (.int .u64 (p.first.x2:Int))/\w.cell? ⟨q,3,none⟩=some (.int .u64 (p.first.x3:Int)) /\
  w.cell? ⟨q,4,none⟩=some (.int .u64 (p.last.x0:Int))/\w.cell? ⟨q,5,none⟩=some (.int .u64 (p.last.x1:Int))/\w.cell? ⟨q,6,none⟩=some (.int .u64 (p.last.x2:Int))/\w.cell? ⟨q,7,none⟩=some (.int .u64 (p.last.x3:Int))/\w.cell? ⟨q,8,none⟩=some (.bool p.empty):=by
 simp[cell?,h]
def eX {T:TypeId} (h:w.heap[q]?=some (.cells zC T fr)) :
  w.cell? ⟨q,0,none⟩=some (.int .u64 0)/\w.cell? ⟨q,1,none⟩=some (.int .u64 0)/\w.cell? ⟨q,2,none⟩=some (.int .u64 0)/\w.cell? ⟨q,3,none⟩=some (.int .u64 0) /\
  w.cell? ⟨q,4,none⟩=some (.int .u64 0)/\w.cell? ⟨q,5,none⟩=some (.int .u64 0)/\w.cell? ⟨q,6,none⟩=some (.int .u64 0)/\w.cell? ⟨q,7,none⟩=some (.int .u64 0)/\w.cell? ⟨q,8,none⟩=some (.bool false):=by
 simp[cell?,h]
abbrev S9 (w:World) (q:Nat) (p:Pc):World:=
 ((((((((w.setCell ⟨q,0,none⟩ (.int .u64 (p.first.x0:Int))).setCell ⟨q,1,none⟩ (.int .u64 (p.first.x1:Int))).setCell ⟨q,2,none⟩ (.int .u64 (p.first.x2:Int))).setCell ⟨q,3,none⟩ (.int .u64 (p.first.x3:Int))).setCell ⟨q,4,none⟩ (.int .u64 (p.last.x0:Int))).setCell ⟨q,5,none⟩ (.int .u64 (p.last.x1:Int))).setCell ⟨q,6,none⟩ (.int .u64 (p.last.x2:Int))).setCell ⟨q,7,none⟩ (.int .u64 (p.last.x3:Int))).setCell ⟨q,8,none⟩ (.bool p.empty)
variable (w q p) in
def vw (h:k≠q):(S9 w q p).heap[k]?=w.heap[k]?:=by
 rw[ah _ _ _ _ h,ah _ _ _ _ h,ah _ _ _ _ h,ah _ _ _ _ h,ah _ _ _ _ h,ah _ _ _ _ h,ah _ _ _ _ h,ah _ _ _ _ h,ah _ _ _ _ h]
def ap {T:TypeId} (h:w.heap[q]?=some (.cells cs T fr)):(w.setCell ⟨q,o,none⟩ v).heap[q]?=some (.cells (cs.setIfInBounds o v) T fr):=by
 simp[World.setCell,Array.getElem?_modify,h]
def fx (p:Pc) {a0 a1 a2 a3 a4 a5 a6 a7 a8:Value}{T:TypeId} (h:w.heap[q]?=some (.cells #[a0,a1,a2,a3,a4,a5,a6,a7,a8] T fr)):(S9 w q p).heap[q]?=some (.cells (ik p) T fr):=by
 rw[ap (ap (ap (ap (ap (ap (ap (ap (ap h))))))))]
 simp
theorem IN (w:World) (a:Addr) (v:Value):(w.setCell a v).os=w.os/\(w.setCell a v).tape=w.tape/\(w.setCell a v).output=w.output:=⟨rfl,rfl,rfl⟩
variable (w q p) in
def Al:(S9 w q p).os=w.os/\(S9 w q p).tape=w.tape/\(S9 w q p).output=w.output:=by grind [IN]
variable (w q p) in
theorem BU:(S9 w q p).heap.size=w.heap.size:=by simp[World.setCell]
variable (w q p) in
def Ga (h:B<=q):Below B w (S9 w q p):=⟨(Al w q p).1,(Al w q p).2.1,(Al w q p).2.2,by rw[BU];exact zq,λb hb=>vw w q p ω⟩
def gj.put (h:gj sb w vb vf w1 vb1 vf1)  (hq:w.heap.size<=q) (p:Pc):gj sb w vb vf (S9 w1 q p) vb1 vf1:=by
 have hb:=Ga w1 q p hq;refine⟨⟨hb.os.trans h.exc.os,hb.tape.trans h.exc.tape,hb.output.trans h.exc.output,Zc h.exc.size hb.size,λb hb' hS=>(hb.block b hb').trans (h.exc.block b hb' hS)⟩,h.new,λhsb o ho=>(cP (hb.block sb hsb) o).trans (h.cl hsb o ho)⟩
def ch.put (h:ch w sb vb vf e)  (hq:¬ eJ sb vb vf q) (p:Pc):ch (S9 w q p) sb vb vf e:=h.keep (λb hb=>vw w q p (by rintro rfl;exact hq hb))
variable (w sb vb vf e p n) in
def nZ (hT:TabZ w) (h1:1<sb) (h:ch w sb vb vf e) (hn:n<=64) (he:dE n e) (hp:eE n p) :
  Calls prog 211 #[.pointer (some ⟨sb,0,none⟩),pE p] w λr w'=>r=.returned (pE p)/\ch w' sb vb vf (e.join p p)/\gj sb w vb vf w' vb vf:=by
 obtain⟨w1,a⟩:=zx ((w.alloc (.cells (ik p) 152)).alloc (.cells zC 152));have d:Below w.heap.size w w1:=by rw[a];exact ZA.alloc χ _
 have j:w1.heap.size=w.heap.size+2:=by rw[a];simp
 have k0:w1.heap[w.heap.size]?=some (.cells (ik p) 152):=by rw[a,Ze _ _ _ χ];exact Za w _
 have k1:w1.heap[w.heap.size+1]?=some (.cells zC 152):=by
  rw[a];have:=Za (w.alloc (.cells (ik p) 152)) (.cells zC 152)
  simpa using this
 have f:=oS w1 sb vb vf e p p n (hT.keep (d.block 1 hT.lt)) h1 (h.below d) hn he hp hp;simp only[W4.v] at f;have HW:=zh a;have c:Hid (∀ b,eJ sb vb vf b->b<w.heap.size):=λb hb=>(h.lt hb).2
 have i:=zh d
 go_enter func211,ntmps211
 go_wp2_with (go_at_call 197;rw[<-HW.out];refine f.mono ?_;rintro r w2 ⟨rfl,hx,hg⟩;have HX:=zh hx;have HG:=zh (((gj.of_below i).trans hg));have HK:=zh ((hg.same ω (λq=>by have:=c _ q;omega)).trans k1);obtain⟨y0,y1,y2,y3,y4,y5,y6,y7,y8⟩:=bP ((hg.same (b:=w.heap.size) ω (λq=>by have:=c _ q;omega)).trans k0);obtain⟨z0,z1,z2,z3,z4,z5,z6,z7,z8⟩:=eX HK;have zf:∀ o,w2.frozen? ⟨w.heap.size+1,o,none⟩=false:=(λo=>by simp[frozen?,HK.out]))
 refine Zb (v:=pE p) (by simp[results,results211,go_sem,z0,z1,z2,z3,z4,z5,z6,z7,z8]) rfl ⟨rfl,?_,?_⟩
 .exact ch.put HX (q:=w.heap.size+1) (λq=>by have:=c _ q;omega) p
 .exact gj.put HG ω p
def vy (h:eE n p) (hn:n<=64):p.first.ok/\p.last.ok:=⟨h.f.ok hn,h.l.ok hn⟩
def qS {T:TypeId} (h:w.heap[q]?=some (.cells (ik p) T)):gG w q 0 p.first:=by
 obtain⟨y0,y1,y2,y3,y4,y5,y6,y7,y8⟩:=bP h;exact⟨y0,y1,y2,y3,λo=>by simp[frozen?,h]⟩
def pF {T:TypeId} (h:w.heap[q]?=some (.cells (ik p) T)):gG w q 4 p.last:=by
 obtain⟨y0,y1,y2,y3,y4,y5,y6,y7,y8⟩:=bP h;exact⟨y4,y5,y6,y7,λo=>by simp[frozen?,h]⟩
def xv {cs ds:Array Value} (h1:cs.size=9) (h2:ds.size=9) (h:∀ i,i<9->cs[i]?=ds[i]?):cs=ds:=by
 apply Array.ext_getElem?;intro i
 by_cases hi:i<9
 .exact h i hi
 .simp_all
def n_ {T:TypeId} (h:w.heap[q]?=some (.cells (ik p) T)) (hx:gG w' q 0 x) (hf:Sx.Fo q 0 w w'):w'.heap[q]?=some (.cells (ik {p with first:=x}) T):=by
 obtain⟨a,e1,e2⟩:=hf.shp _ _ _ h;obtain⟨y0,y1,y2,y3,y4,y5,y6,y7,y8⟩:=bP h;rw[e1];have key:∀ i v,w'.cell? ⟨q,i,none⟩=some v->a[i]?=some v:=λi v hv=>by simpa [cell?,e1] using hv
 have hc:a=ik {p with first:=x}:=by
  refine xv (by rw[e2];rfl) rfl (λi hi=>?_)
  match i,hi with
  |0,_=>exact key 0 _ hx.c0
  |1,_=>exact key 1 _ hx.c1
  |2,_=>exact key 2 _ hx.c2
  |3,_=>exact key 3 _ hx.c3
  |4,_=>exact key 4 _ ((hf.four.cell 4 ω).trans y4)
  |5,_=>exact key 5 _ ((hf.four.cell 5 ω).trans y5)
  |6,_=>exact key 6 _ ((hf.four.cell 6 ω).trans y6)
  |7,_=>exact key 7 _ ((hf.four.cell 7 ω).trans y7)
  |8,_=>exact key 8 _ ((hf.four.cell 8 ω).trans y8)
 rw[hc]
def mW {T:TypeId} (h:w.heap[q]?=some (.cells (ik p) T)) (hx:gG w' q 4 x) (hf:Sx.Fo q 4 w w'):w'.heap[q]?=some (.cells (ik {p with last:=x}) T):=by
 obtain⟨a,e1,e2⟩:=hf.shp _ _ _ h;obtain⟨y0,y1,y2,y3,y4,y5,y6,y7,y8⟩:=bP h;rw[e1];have key:∀ i v,w'.cell? ⟨q,i,none⟩=some v->a[i]?=some v:=λi v hv=>by simpa [cell?,e1] using hv
 have hc:a=ik {p with last:=x}:=by
  refine xv (by rw[e2];rfl) rfl (λi hi=>?_)
  match i,hi with
  |4,_=>exact key 4 _ hx.c0
  |5,_=>exact key 5 _ hx.c1
  |6,_=>exact key 6 _ hx.c2
  |7,_=>exact key 7 _ hx.c3
  |0,_=>exact key 0 _ ((hf.four.cell 0 ω).trans y0)
  |1,_=>exact key 1 _ ((hf.four.cell 1 ω).trans y1)
  |2,_=>exact key 2 _ ((hf.four.cell 2 ω).trans y2)
  |3,_=>exact key 3 _ ((hf.four.cell 3 ω).trans y3)
  |8,_=>exact key 8 _ ((hf.four.cell 8 ω).trans y8)
 rw[hc]
def Sx.Fo.below (h:Sx.Fo b off w w')  (hB:B<=b) (hb:b<w.heap.size):Below B w w':=
 ⟨h.four.os,h.four.tape,h.four.output,h.four.size,λk hk=>h.four.block k ω ω⟩
structure JB (W:World) (H:Nat) (a b:Pc):Prop where
 k0:W.heap[H]?=some (.cells (ik a) 152)
 k1:W.heap[H+1]?=some (.cells (ik b) 152)
 k2:W.heap[H+2]?=some (.cells zC 152)
def JB.keep {a b:Pc} (h:JB W H a b) (k:∀ j,H<=j->j<H+3->W'.heap[j]?=W.heap[j]?):JB W' H a b:=
 ⟨(k _ ω ω).trans h.k0,(k _ ω ω).trans h.k1,(k _ ω ω).trans h.k2⟩
def JB.lt {a b:Pc} (h:JB W H a b):H+2<W.heap.size:=(ZC h.k2)
theorem JB.al {a b:Pc} (h:JB W H a b) (ob:Obj):JB (W.alloc ob) H a b:=h.keep (λj h1 h2=>Ze _ _ _ (η h.lt))
def oT {a b:Pc} (h:JB W H a b):(∀ o,W.frozen? ⟨H+2,o,none⟩=false):=λo=>by simp[frozen?,h.k2]
structure Ls (w w1:World) (sb:Nat) (vb vf:Value) (e:Ex) (a b:Pc):Prop where
 ew:w1=((w.alloc (.cells (ik a) 152)).alloc (.cells (ik b) 152)).alloc (.cells zC 152)
 z:w1.heap.size=w.heap.size+3
 j:JB w1 w.heap.size a b
 lt:∀ b,eJ sb vb vf b->b<w.heap.size
 bl:Below w.heap.size w w1
 fo:Calls prog 197 #[.pointer (some ⟨sb,0,none⟩),lW a.last.x0 a.last.x1 a.last.x2 a.last.x3,lW b.first.x0 b.first.x1 b.first.x2 b.first.x3] w1 λr w'=>r=.returned (.tuple #[])/\ch w' sb vb vf (e.join a b)/\gj sb w1 vb vf w' vb vf
variable (w sb vb vf e) in
def Mf (a b:Pc) (n:Nat) (hT:TabZ w) (h1:1<sb) (h:ch w sb vb vf e) (hn:n<=64) (he:dE n e) (ha:eE n a) (hb:eE n b):∃ w1,Ls w w1 sb vb vf e a b:=by
 obtain⟨w1,c⟩:=zx (((w.alloc (.cells (ik a) 152)).alloc (.cells (ik b) 152)).alloc (.cells zC 152));have d:Below w.heap.size w w1:=by rw[c];exact(ZA.alloc χ _).alloc σ _
 have j:w1.heap.size=w.heap.size+3:=by rw[c];simp
 have i:JB w1 w.heap.size a b:=by rw[c];exact⟨IG w _ _ _,KB w _ _ _,JM w _ _ _⟩
 have f:=oS w1 sb vb vf e a b n (hT.keep (d.block 1 hT.lt)) h1 (h.below d) hn he ha hb;simp only[W4.v] at f;exact⟨w1,c,j,i,λb hb=>(h.lt hb).2,d,f⟩
def LY {w V W:World}{E:Ex} (hW:W=S9 V H p) (hk:V.heap[H]?=some (.cells zC 152)) (hx:ch V sb vb vf E) (hg:gj sb w vb vf V vb vf) (hn:eJ sb vb vf H->False) (hH:w.heap.size<=H):W.heap[H]?=some (.cells (ik p) 152)/\ch W sb vb vf E/\gj sb w vb vf W vb vf:=by
 subst hW;exact⟨fx _ hk,hx.put hn p,hg.put hH p⟩
variable (w sb vb vf e) in
def mX (a b:Pc) (n:Nat) (hT:TabZ w) (h1:1<sb) (h:ch w sb vb vf e) (hn:n<=64) (he:dE n e) (ha:eE n a) (hb:eE n b) :
  Calls prog 175 #[.pointer (some ⟨sb,0,none⟩),pE a,pE b] w λr w'=>r=.returned (pE (a.join b))/\ch w' sb vb vf (e.join a b)/\gj sb w vb vf w' vb vf:=by
 obtain⟨w1,hp⟩:=Mf w sb vb vf e a b n hT h1 h hn he ha hb;have T:=vy ha hn;have R:=vy hb hn;obtain⟨af,al,ae⟩:=a;obtain⟨bf,bl,be⟩:=b;have hA:af.ok/\al.ok:=T;have hB:bf.ok/\bl.ok:=R;have HP:Hid (Ls w w1 sb vb vf e ⟨af,al,ae⟩ ⟨bf,bl,be⟩):=hp;have b9:=hp.z;have V:=hp.fo;obtain⟨x,hx⟩:=zx (ae&&be);obtain⟨y,hy⟩:=zx ae;have O:=zh hy;clear hp hT h1 h hn he ha hb T R hy
 cases ae<;>cases be
 all_goals
  simp only[Bool.and_true,Bool.and_false] at hx;have G:=zh hx;clear hx
  go_enter func175,ntmps175
  go_wp2_with (first|(have _:=A;go_at_call 125;refine(cK w4 w2.heap.size 4 bl al hB.2 hA.2 (pF A)).mono ?_;rintro r w5 ⟨rfl,M,K⟩;have X:=mW A M K;have I:Below w2.heap.size w2 w5:=u.trans (K.below zq (ZC A));clear M K A a0 a1 a2 a3 a4 a5 a6 a7 a8 b0 b1 b2 b3 b4 b5 b6 b7 b8 z0 z1 z2 z3 z4 z5 z6 z7 z8 zf aa bb zz zg x0 x1 x2 x3 x4 x5 x6 x7 x8 C;have Q:=zh I;have Z:=zh (HJ.keep (W':=w5) (λj h1 h2=>by rw[I.block j (η N.out),u.out.block j (η N.out)]));clear HJ;have HJ:=Z;clear l;obtain⟨a0,a1,a2,a3,a4,a5,a6,a7,a8⟩:=bP HJ.k0;obtain⟨b0,b1,b2,b3,b4,b5,b6,b7,b8⟩:=bP HJ.k1;obtain⟨z0,z1,z2,z3,z4,z5,z6,z7,z8⟩:=eX HJ.k2;have zf:=oT HJ;have l:=HJ.lt;simp only at a8 b8;have JA:=HJ;have aa:=(λob=>bP (JA.al ob).k0);have bb:=(λob=>bP (JA.al ob).k1);have zz:=(λob=>eX (JA.al ob).k2);have zg:=(λob=>oT (JA.al ob));simp only at aa bb;clear JA;obtain⟨x0,x1,x2,x3,x4,x5,x6,x7,x8⟩:=bP X;have a9:=I.size;clear I)|(have _:Hid (y=true):=O;go_at_call 125;obtain⟨w3,d⟩:=zx (w2.alloc (.cells (ik ⟨af,bl,x⟩) 152));have t:w3.heap[w2.heap.size]?=some (.cells (ik ⟨af,bl,x⟩) 152):=(by rw[d];exact Za w2 _);have F:Below w2.heap.size w2 w3:=(by rw[d];exact ZA);have U:w3.heap.size=w2.heap.size+1:=(by rw[d];simp);have i:=d;rw[G.out] at i;rw[<-i];refine(cK w3 w2.heap.size 0 af bf hA.1 hB.1 (qS t)).mono ?_;rintro r w4 ⟨rfl,E,m⟩;have C:=n_ t E m;have f:Below w2.heap.size w2 w4:=F.trans (m.below zq ω);clear i d t F E m a0 a1 a2 a3 a4 a5 a6 a7 a8 b0 b1 b2 b3 b4 b5 b6 b7 b8 z0 z1 z2 z3 z4 z5 z6 z7 z8 zf aa bb zz zg;have u:=zh f;have J:=zh (HJ.keep (W':=w4) (λj h1 h2=>f.block j ω));clear HJ;have HJ:=J;clear l;have A:=zh C;obtain⟨a0,a1,a2,a3,a4,a5,a6,a7,a8⟩:=bP HJ.k0;obtain⟨b0,b1,b2,b3,b4,b5,b6,b7,b8⟩:=bP HJ.k1;obtain⟨z0,z1,z2,z3,z4,z5,z6,z7,z8⟩:=eX HJ.k2;have zf:=oT HJ;have l:=HJ.lt;simp only at a8 b8;have JA:=HJ;have aa:=(λob=>bP (JA.al ob).k0);have bb:=(λob=>bP (JA.al ob).k1);have zz:=(λob=>eX (JA.al ob).k2);have zg:=(λob=>oT (JA.al ob));simp only at aa bb;clear JA;obtain⟨x0,x1,x2,x3,x4,x5,x6,x7,x8⟩:=bP C;have Y:=f.size;clear f)|(have _:Hid (y=false):=O;go_at_call 125;obtain⟨w3,d⟩:=zx (w2.alloc (.cells (ik ⟨af,bl,x⟩) 152));have t:w3.heap[w2.heap.size]?=some (.cells (ik ⟨af,bl,x⟩) 152):=(by rw[d];exact Za w2 _);have F:Below w2.heap.size w2 w3:=(by rw[d];exact ZA);have U:w3.heap.size=w2.heap.size+1:=(by rw[d];simp);have i:=d;rw[G.out] at i;rw[<-i];refine(cK w3 w2.heap.size 4 bl al hB.2 hA.2 (pF t)).mono ?_;rintro r w4 ⟨rfl,E,m⟩;have C:=mW t E m;have f:Below w2.heap.size w2 w4:=F.trans (m.below zq ω);clear i d t F E m a0 a1 a2 a3 a4 a5 a6 a7 a8 b0 b1 b2 b3 b4 b5 b6 b7 b8 z0 z1 z2 z3 z4 z5 z6 z7 z8 zf aa bb zz zg;have u:=zh f;have J:=zh (HJ.keep (W':=w4) (λj h1 h2=>f.block j ω));clear HJ;have HJ:=J;clear l;have A:=zh C;obtain⟨a0,a1,a2,a3,a4,a5,a6,a7,a8⟩:=bP HJ.k0;obtain⟨b0,b1,b2,b3,b4,b5,b6,b7,b8⟩:=bP HJ.k1;obtain⟨z0,z1,z2,z3,z4,z5,z6,z7,z8⟩:=eX HJ.k2;have zf:=oT HJ;have l:=HJ.lt;simp only at a8 b8;have JA:=HJ;have aa:=(λob=>bP (JA.al ob).k0);have bb:=(λob=>bP (JA.al ob).k1);have zz:=(λob=>eX (JA.al ob).k2);have zg:=(λob=>oT (JA.al ob));simp only at aa bb;clear JA;obtain⟨x0,x1,x2,x3,x4,x5,x6,x7,x8⟩:=bP C;have Y:=f.size;clear f)|(go_at_call 197;rw[<-HP.out.ew];refine V.mono ?_;rintro r w2 ⟨rfl,hx,hg⟩;have HX:=zh hx;have HG:=zh ((gj.of_below HP.bl).trans hg);have HJ:=zh (HP.j.keep (W':=w2) (λj h1 h2=>hg.same ω (λq=>by have:=HP.lt _ q;omega)));obtain⟨a0,a1,a2,a3,a4,a5,a6,a7,a8⟩:=bP HJ.k0;obtain⟨b0,b1,b2,b3,b4,b5,b6,b7,b8⟩:=bP HJ.k1;obtain⟨z0,z1,z2,z3,z4,z5,z6,z7,z8⟩:=eX HJ.k2;have zf:=oT HJ;have l:=HJ.lt;simp only at a8 b8;have JA:=HJ;have aa:=(λob=>bP (JA.al ob).k0);have bb:=(λob=>bP (JA.al ob).k1);have zz:=(λob=>eX (JA.al ob).k2);have zg:=(λob=>oT (JA.al ob));simp only at aa bb;clear JA;have N:=zh l;clear hx hg))
  first
  |(obtain⟨P,hP⟩:=zx (⟨af.or bf,bl.or al,x⟩:Pc);obtain⟨W,hW⟩:=zx (S9 w5 (w.heap.size+1+1) P);have c:=hW;rw[hP] at c;simp only[S9] at c;rw[<-c];obtain⟨hq,z,D⟩:=LY hW HJ.k2 (HX.below Q) (HG.below Q) (λq=>by have:=HP.lt _ q;omega) ω)
  |(obtain⟨P,hP⟩:=zx (⟨af.or bf,bl,x⟩:Pc);obtain⟨W,hW⟩:=zx (S9 w4 (w.heap.size+1+1) P);have c:=hW;rw[hP] at c;simp only[S9] at c;rw[<-c];obtain⟨hq,z,D⟩:=LY hW HJ.k2 (HX.below u) (HG.below u) (λq=>by have:=HP.lt _ q;omega) ω)
  |(obtain⟨P,hP⟩:=zx (⟨af,bl.or al,x⟩:Pc);obtain⟨W,hW⟩:=zx (S9 w4 (w.heap.size+1+1) P);have c:=hW;rw[hP] at c;simp only[S9] at c;rw[<-c];obtain⟨hq,z,D⟩:=LY hW HJ.k2 (HX.below u) (HG.below u) (λq=>by have:=HP.lt _ q;omega) ω)
  |(obtain⟨P,hP⟩:=zx (⟨af,bl,x⟩:Pc);obtain⟨W,hW⟩:=zx (S9 w2 (w.heap.size+1+1) P);have c:=hW;rw[hP,G.out] at c;simp only[S9] at c;rw[<-c];obtain⟨hq,z,D⟩:=LY hW HJ.k2 HX HG (λq=>by have:=HP.lt _ q;omega) ω;have L:Below W.heap.size W (W.alloc (.cells (ik ⟨af,bl,false⟩) 152)):=ZA;replace z:=z.below L;replace D:=D.below L;replace hq:=(L.block _ (ZC hq)).trans hq)
  obtain⟨q0,q1,q2,q3,q4,q5,q6,q7,q8⟩:=bP hq;exact Zb (v:=pE P) (by simp[results,results175,go_sem,q0,q1,q2,q3,q4,q5,q6,q7,q8]) rfl ⟨by rw[hP,G.out];rfl,z,D⟩
def or_bit (x:W4) (n:Nat) (hn:n<64):x.or (fv n)=⟨x.x0 ||| 2 ^ n,x.x1,x.x2,x.x3⟩:=by simp[W4.or,fv,hn]
variable (w b off n x) in
def xw (hx:x.ok) (hn:n<64) (h:gG w b off x) :
  Calls prog 178 #[.pointer (some ⟨b,off,none⟩),.int .u8 n] w λe w'=>e=.returned (.tuple #[])/\gG w' b off (x.or (fv n))/\Sx.Fo b off w w':=by
 have h':=h;obtain⟨c0,c1,c2,c3,fz⟩:=h;obtain⟨m,a⟩:∃ m,n=m:=⟨n,rfl⟩
 have hd:(n:Int) / 64=0:=ω;have hm:(n:Int)%64=(m:Int):=ω;have c:m<64:=ω;have HW:=zh (Sx.pY x.x0 m hx.l0 c);have f0:=fz off;have HM:=zh a;rw[or_bit x n hn];clear a
 go_enter func178,ntmps178
 go_region
 refine bodyPost_end (results_none rfl _ _ _) rfl ?_;rw[HW.out,HM.out];refine⟨rfl,⟨?_,?_,?_,?_,λo=>?_⟩,((Sx.Fo.refl _ _ _).setCell _ ω _).drew⟩
 .simp[go_sem,c0]
 .simp[go_sem,c1]
 .simp[go_sem,c2]
 .simp[go_sem,c3]
 .simp[go_sem,fz]
def ct (hH:wa.heap.size=H) (h:(v.ownBlock=some g/\wa.grownBy w4 (some g))\/(g=H/\wa.grownBy w4 none))  (hb:b<wa.heap.size) (hn:v.ownBlock≠some b):w4.heap[b]?=wa.heap[b]?:=by
 rcases h with⟨h1,h2⟩|⟨h1,h2⟩
 .exact h2.block b hb (by rw[<-h1];exact λe=>hn e.symm)
 .exact h2.block b hb χ
def gk (h:(v.ownBlock=some g/\wa.grownBy w4 (some g))\/(g=H/\wa.grownBy w4 none)):w4.os=wa.os/\w4.tape=wa.tape/\w4.output=wa.output/\wa.heap.size<=w4.heap.size:=by
 rcases h with⟨h1,h2⟩|⟨h1,h2⟩
 .exact⟨h2.os,h2.tape,h2.output,h2.size⟩
 .exact⟨h2.os,h2.tape,h2.output,h2.size⟩
def ch.addB {ws:List W4} (h:ch wa sb vb vf e) (hw:dq 226 wa (sb+1) vb ws) (hl:ws.length=e.bs.length)
  (hd:∀ i (h:i<ws.length) (h2:i<e.bs.length),Sx.Wd ws[i].x0 ws[i].x1 ws[i].x2 ws[i].x3 e.bs[i]) (hS:Sx.Wd x.x0 x.x1 x.x2 x.x3 S)
  (ho:w4.ownsRow (sb+1) 226 4 (.slice (some ⟨g,0,none⟩) (ws.length+1) k) (ws.length+1) (ws.flatMap W4.cs++x.cs)) (hH:wa.heap.size=H)
  (hc:(vb.ownBlock=some g/\wa.grownBy w4 (some g))\/(g=H/\wa.grownBy w4 none)) :
  ch (w4.setCell ⟨sb,0,none⟩ (.slice (some ⟨g,0,none⟩) (ws.length+1) k)) sb (.slice (some ⟨g,0,none⟩) (ws.length+1) k) vf ⟨e.bs++[S],e.fs⟩ /\
  gj sb wa vb vf (w4.setCell ⟨sb,0,none⟩ (.slice (some ⟨g,0,none⟩) (ws.length+1) k)) (.slice (some ⟨g,0,none⟩) (ws.length+1) k) vf/\w4.cell? ⟨sb,0,none⟩=some vb/\w4.frozen? ⟨sb,0,none⟩=false:=by
 have d:=(h.lt (.inl rfl)).2;have m:sb+1<=g:=by
  rcases ho.2 with⟨q,_⟩|⟨g',j,l,q,hb,_⟩
  .simp at q
  .simp at q;omega
 have f:vb.ownBlock≠some sb:=λq=>by have:=(hw.lt q).1;omega
 have a:=ct hH hc d f;obtain⟨g1,g2,g3,g4⟩:=gk hc;have k0:w4.cell? ⟨sb,0,none⟩=some vb:=by rw[<-h.c0];simp[cell?,a]
 have k1:w4.cell? ⟨sb,1,none⟩=some vf:=by rw[<-h.c1];simp[cell?,a]
 have kf:∀ o,w4.frozen? ⟨sb,o,none⟩=false:=λo=>by rw[<-h.fz o];simp[frozen?,a]
 have c:∀ b,vf.ownBlock=some b->w4.heap[b]?=wa.heap[b]?:=λb hb=>ct hH hc (h.lt (.inr (.inr hb))).2 (λq=>h.ne q hb)
 refine⟨⟨?_,?_,λo=>?_,⟨ws++[x],?_,?_,?_⟩,?_⟩,⟨⟨g1,g2,g3,?_,λb hb hS'=>?_⟩,λb hb=>?_,λ_ o ho=>?_⟩,k0,kf 0⟩
 .exact cell?_setCell_same' _ _ _ (by rw[k0];rfl)
 .simp[go_sem,k1]
 .simp[go_sem,kf]
 .have:dq 226 w4 (sb+1) (.slice (some ⟨g,0,none⟩) (ws.length+1) k) (ws++[x]):=by
   unfold dq
   simpa using ho
  exact this.blk (λb hb=>ah _ _ _ _ (by simp[Value.ownBlock] at hb;omega))
 .simp[hl]
 .intro i h1 h2;rcases Nat.lt_or_ge i ws.length with q|q
  .rw[Zp q,Zp ω];exact hd i q ω
  .have e1:i=ws.length:=by simp at h1;omega
   subst e1;rw[getElem_append_right ω,getElem_append_right ω]
   simpa using hS
 .exact h.fs.blk (λb hb=>(ah _ _ _ _ (η ((h.fs.lt hb).1))).trans (c b hb))
 .simp[World.setCell];exact g4
 .rw[ah _ _ _ _ (λq=>hS' (.inl q))];exact ct hH hc hb (λq=>hS' (.inr (.inl q)))
 .rcases hb with hb|hb|hb
  .exact .inl (.inl hb)
  .simp[Value.ownBlock] at hb;subst hb;rcases hc with⟨q,_⟩|⟨q,_⟩
   .exact .inl (.inr (.inl q))
   .exact .inr ω
  .exact .inl (.inr (.inr hb))
 .rw[show(w4.setCell ⟨sb,0,none⟩ (.slice (some ⟨g,0,none⟩) (ws.length+1) k)).cell? ⟨sb,o,none⟩=w4.cell? ⟨sb,o,none⟩ by simp[go_sem,show ¬(o=0) by omega]];exact cP a o
def ch.addF (h:ch wa sb vb vf e)
  (ho:w4.ownsRow (sb+1) 150 4 (.slice (some ⟨g,0,none⟩) (e.fs.length+1) k) (e.fs.length+1) (e.fs.flatMap W4.cs++x.cs)) (hH:wa.heap.size=H)
  (hc:(vf.ownBlock=some g/\wa.grownBy w4 (some g))\/(g=H/\wa.grownBy w4 none)) :
  ch (w4.setCell ⟨sb,1,none⟩ (.slice (some ⟨g,0,none⟩) (e.fs.length+1) k)) sb vb (.slice (some ⟨g,0,none⟩) (e.fs.length+1) k) ⟨e.bs,e.fs++[x]⟩ /\
  gj sb wa vb vf (w4.setCell ⟨sb,1,none⟩ (.slice (some ⟨g,0,none⟩) (e.fs.length+1) k)) vb (.slice (some ⟨g,0,none⟩) (e.fs.length+1) k)/\w4.cell? ⟨sb,1,none⟩=some vf/\w4.frozen? ⟨sb,1,none⟩=false:=by
 have f:=(h.lt (.inl rfl)).2;have m:sb+1<=g:=by
  rcases ho.2 with⟨q,_⟩|⟨g',j,l,q,hb,_⟩
  .simp at q
  .simp at q;omega
 have d:vf.ownBlock≠some sb:=λq=>by have:=(h.fs.lt q).1;omega
 have a:=ct hH hc f d;obtain⟨g1,g2,g3,g4⟩:=gk hc;have k0:w4.cell? ⟨sb,0,none⟩=some vb:=by rw[<-h.c0];simp[cell?,a]
 have k1:w4.cell? ⟨sb,1,none⟩=some vf:=by rw[<-h.c1];simp[cell?,a]
 have kf:∀ o,w4.frozen? ⟨sb,o,none⟩=false:=λo=>by rw[<-h.fz o];simp[frozen?,a]
 obtain⟨ws,c,hl,hd⟩:=h.bs;have i:∀ b,vb.ownBlock=some b->w4.heap[b]?=wa.heap[b]?:=λb hb=>ct hH hc (h.lt (.inr (.inl hb))).2 (λq=>h.ne hb q)
 refine⟨⟨?_,?_,λo=>?_,⟨ws,?_,hl,hd⟩,?_⟩,⟨⟨g1,g2,g3,?_,λb hb hS'=>?_⟩,λb hb=>?_,λ_ o ho=>?_⟩,k1,kf 1⟩
 .simp[go_sem,k0]
 .exact cell?_setCell_same' _ _ _ (by rw[k1];rfl)
 .simp[go_sem,kf]
 .exact c.blk (λb hb=>(ah _ _ _ _ (η ((c.lt hb).1))).trans (i b hb))
 .have:dq 150 w4 (sb+1) (.slice (some ⟨g,0,none⟩) (e.fs.length+1) k) (e.fs++[x]):=by
   unfold dq
   simpa using ho
  exact this.blk (λb hb=>ah _ _ _ _ (by simp[Value.ownBlock] at hb;omega))
 .simp[World.setCell];exact g4
 .rw[ah _ _ _ _ (λq=>hS' (.inl q))];exact ct hH hc hb (λq=>hS' (.inr (.inr q)))
 .rcases hb with hb|hb|hb
  .exact .inl (.inl hb)
  .exact .inl (.inr (.inl hb))
  .simp[Value.ownBlock] at hb;subst hb;rcases hc with⟨q,_⟩|⟨q,_⟩
   .exact .inl (.inr (.inr q))
   .exact .inr ω
 .rw[show(w4.setCell ⟨sb,1,none⟩ (.slice (some ⟨g,0,none⟩) (e.fs.length+1) k)).cell? ⟨sb,o,none⟩=w4.cell? ⟨sb,o,none⟩ by simp[go_sem,show ¬(o=1) by omega]];exact cP a o
def dq.form {te:TypeId} (h:dq te w base v fs):∃ a c,v=.slice a fs.length c:=by
 rcases h.2 with⟨rfl,hn⟩|⟨g,f,d,rfl,_⟩
 .simp_all
 .simp_all
def Tryz.infoSb:(prog.info? 226).map (λi=>(i.zero,i.size,i.bytes))=some (some (.agg #[.int .u64 0,.int .u64 0,.int .u64 0,.int .u64 0]),4,32):=κ
def Tryz.infoSp:(prog.info? 150).map (λi=>(i.zero,i.size,i.bytes))=some (some (.agg #[.int .u64 0,.int .u64 0,.int .u64 0,.int .u64 0]),4,32):=κ
structure AB (W:World) (H:Nat) (gv:Value) (x s:W4):Prop where
 k0:W.heap[H]?=some (.cells #[gv,.int .u64 (x.x0:Int),.int .u64 (x.x1:Int),.int .u64 (x.x2:Int),.int .u64 (x.x3:Int)] 228)
 k1:W.heap[H+1]?=some (.cells zC 152)
 k2:gG W (H+2) 0 s
def AB.keep (h:AB W H gv x s) (k:∀ j,H<=j->j<H+3->W'.heap[j]?=W.heap[j]?):AB W' H gv x s:=by
 have k2:=k (H+2) ω ω;refine⟨(k _ ω ω).trans h.k0,(k _ ω ω).trans h.k1,?_,?_,?_,?_,λo=>?_⟩
 .rw[<-h.k2.c0];simp[cell?,k2]
 .rw[<-h.k2.c1];simp[cell?,k2]
 .rw[<-h.k2.c2];simp[cell?,k2]
 .rw[<-h.k2.c3];simp[cell?,k2]
 .rw[<-h.k2.fz o];simp[frozen?,k2]
def AB.lt (h:AB W H gv x s):H+2<W.heap.size:=aF h.k2.c0
variable (w sb vb vf e) in
def Gb (ga:Option Addr) (gc:Nat) (x:W4) (S:Nat->Bool) (n:Nat) (h1:1<sb) (h:ch w sb vb vf e) (hn:n<64) (he:dE n e) (hS:Sx.Wd x.x0 x.x1 x.x2 x.x3 S) :
  Calls prog 198 #[.pointer (some ⟨sb,0,none⟩),.agg #[.slice ga 0 gc,.int .u64 (x.x0:Int),.int .u64 (x.x1:Int),.int .u64 (x.x2:Int),.int .u64 (x.x3:Int)]] w λr w'=>r=.returned (pE (jZ S e).1)/\∃ vb' vf',ch w' sb vb' vf' (jZ S e).2/\gj sb w vb vf w' vb' vf':=by
 obtain⟨w2,a⟩:=zx (((w.alloc (.cells #[.slice ga 0 gc,.int .u64 (x.x0:Int),.int .u64 (x.x1:Int),.int .u64 (x.x2:Int),.int .u64 (x.x3:Int)] 228)).alloc (.cells zC 152)).alloc (.cells #[.int .u64 0,.int .u64 0,.int .u64 0,.int .u64 0] 150));have E:Below w.heap.size w w2:=by rw[a];exact(ZA.alloc χ _).alloc σ _
 have e4:w2.heap.size=w.heap.size+3:=by rw[a];simp
 have m2:w2.heap[w.heap.size+2]?=some (.cells #[.int .u64 0,.int .u64 0,.int .u64 0,.int .u64 0] 150):=by rw[a];exact JM w _ _ _
 have K:AB w2 w.heap.size (.slice ga 0 gc) x W4.none:=by
  refine⟨by rw[a];exact IG w _ _ _,by rw[a];exact KB w _ _ _,?_,?_,?_,?_,λo=>?_⟩<;>simp[cell?,frozen?,m2,W4.none]
 have t:=h.below E;have X:W4.none.or (fv n)=fv n:=by simp[W4.or,W4.none]
 have C:=xw w2 (w.heap.size+2) 0 n W4.none ⟨Zr,Zr,Zr,Zr⟩ hn K.k2;rw[X] at C;clear X;have e3:(n:Int)<64:=ω;obtain⟨ws,G,I,U⟩:=t.bs;obtain⟨b5,b8,z⟩:=G.form;have O:=I.trans he.b;rw[O] at z;have c0:=t.c0;rw[z] at c0;have HW:=zh a;have HJ:=zh K;have HX:=zh t;have e6:=zh z;have HB:=zh E;have e2:=(h.lt (.inl rfl)).2;have u:Hid (∀ b,eJ sb vb vf b->b<w.heap.size):=λb hb=>(h.lt hb).2
 have b3:Hid (∀ w3:World,(∀ b,eJ sb vb vf b->w3.heap[b]?=w2.heap[b]?)->w3.ownsRow (sb+1) 226 4 vb ws.length (ws.flatMap W4.cs)):=λw3 k=>ak G (λb hb=>k b (.inr (.inl hb)))
 have b4:=zh I;have c7:=zh U;have HE:=zh he;have d5:ws.length<64:=ω;have d6:e.fs.length<64:=by rw[he.f];exact hn
 have HR:Hid ((jZ S e).1=⟨fv n,fv n,false⟩/\(jZ S e).2=⟨e.bs++[S],e.fs++[⟨0,0,0,0⟩]⟩):=by
  refine⟨?_,rfl⟩;show(⟨fv e.bs.length,fv e.bs.length,false⟩:Pc)=_;rw[he.b]
 clear a K t h E m2 z I U O G he;have c1:(((w.alloc (.cells #[.slice ga 0 gc,.int .u64 (x.x0:Int),.int .u64 (x.x1:Int),.int .u64 (x.x2:Int),.int .u64 (x.x3:Int)] 228)).alloc (.cells zC 152)).alloc (.cells #[.int .u64 0,.int .u64 0,.int .u64 0,.int .u64 0] 150)).cell? ⟨sb,0,none⟩=some (.slice b5 n b8):=by rw[<-HW.out];exact c0
 go_enter func198,ntmps198
 go_wp2_with (go_at_call 178;rw[<-HW.out];refine C.mono ?_;rintro r w3 ⟨rfl,N,P⟩;have f:=P.below zq ω;have T:Hid (∀ b,eJ sb vb vf b->w3.heap[b]?=w2.heap[b]?):=(λb hb=>f.block b (η (u b hb)));have Z:=zh (HX.keep (λb hb=>f.block b (η (u b hb))));have i:Hid (AB w3 w.heap.size (.slice ga 0 gc) x (fv n)):=⟨(f.block _ ω).trans HJ.k0,(f.block _ ω).trans HJ.k1,N⟩;have a3:=zh (HB.trans (f.mono ω));clear N P f)
 obtain⟨i0,c8,b9,d3,Q⟩:=info_parts Tryz.infoSb;obtain⟨i1,b7,c4,c9,b1⟩:=info_parts Tryz.infoSp;have d0:=Z.c0;obtain⟨y0,y1,y2,y3,y4⟩:=fQ i.k0;have D:Below w3.heap.size w3 (w3.alloc (.cells #[.int .u64 (x.x0:Int),.int .u64 (x.x1:Int),.int .u64 (x.x2:Int),.int .u64 (x.x3:Int)] 226)):=ZA;have c2:=cell_below D d0;have b0:=new_ne w3 ⟨sb,0,none⟩ d0;have HO:=zh (b3 _ T);have d7:sb+1<=w3.heap.size:=by have:=i.lt;omega
 have M:Hid (∀ {w4:World}{g k:Nat},w4.ownsRow (sb+1) 226 4 (.slice (some ⟨g,0,none⟩) (ws.length+1) k) (ws.length+1) (ws.flatMap W4.cs++x.cs) ->
   ((vb.ownBlock=some g/\(w3.alloc (.cells #[.int .u64 (x.x0:Int),.int .u64 (x.x1:Int),.int .u64 (x.x2:Int),.int .u64 (x.x3:Int)] 226)).drew.grownBy w4 (some g))\/(g=(w3.alloc (.cells #[.int .u64 (x.x0:Int),.int .u64 (x.x1:Int),.int .u64 (x.x2:Int),.int .u64 (x.x3:Int)] 226)).heap.size/\(w3.alloc (.cells #[.int .u64 (x.x0:Int),.int .u64 (x.x1:Int),.int .u64 (x.x2:Int),.int .u64 (x.x3:Int)] 226)).drew.grownBy w4 none)) ->
   (ch (w4.setCell ⟨sb,0,none⟩ (.slice (some ⟨g,0,none⟩) (ws.length+1) k)) sb (.slice (some ⟨g,0,none⟩) (ws.length+1) k) vf ⟨e.bs++[S],e.fs⟩/\gj sb w vb vf (w4.setCell ⟨sb,0,none⟩ (.slice (some ⟨g,0,none⟩) (ws.length+1) k)) (.slice (some ⟨g,0,none⟩) (ws.length+1) k) vf/\AB (w4.setCell ⟨sb,0,none⟩ (.slice (some ⟨g,0,none⟩) (ws.length+1) k)) w.heap.size (.slice ga 0 gc) x (fv n)/\(∀ b,eJ sb (.slice (some ⟨g,0,none⟩) (ws.length+1) k) vf b->b<w.heap.size\/w.heap.size+3<=b))/\w4.cell? ⟨sb,0,none⟩=some vb/\w4.frozen? ⟨sb,0,none⟩=false):=λ{w4 g k} ho hc=>by
  have l:Below w3.heap.size w3 (w3.alloc (.cells #[.int .u64 (x.x0:Int),.int .u64 (x.x1:Int),.int .u64 (x.x2:Int),.int .u64 (x.x3:Int)] 226)).drew:=D.drew;obtain⟨q1,q2,q3,q4⟩:=ch.addB (wa:=(w3.alloc (.cells #[.int .u64 (x.x0:Int),.int .u64 (x.x1:Int),.int .u64 (x.x2:Int),.int .u64 (x.x3:Int)] 226)).drew) (Z.below l) (HO |> λq=>ak q (λb hb=>l.block b (de q hb))) b4 c7 hS ho rfl hc;refine⟨⟨q1,(gj.of_below (a3.trans (l.mono a3.size))).trans q2,?_,λb hb=>?_⟩,q3,q4⟩
  rotate_left
  .rcases q2.new b hb with q|q
   .exact .inl (u b q)
   .exact .inr (ξ l.size i.lt)
  refine i.keep (λj h1 h2=>?_);rw[q2.exc.block j (ξ l.size i.out.lt) (λq=>by have:=u.out j q;omega)];exact l.block j (η i.lt)
 go_region_law (refine cy _ (by rfl) (.tmp 25) (.tmp 28) 143 (by rfl) (sb+1) 226 i0 _ 4 32 underlying143 c8 b9 d3 Q (by rfl) Zr vb ws.length (ws.flatMap W4.cs) (by rfl) (show ownsRow _ _ _ _ _ _ _ from Zm HO _) ⟨w3.heap.size,0,none⟩ 1 1 x.cs (by rfl) (by rfl) (news_of_block (w:=w3.alloc (.cells #[.int .u64 (x.x0:Int),.int .u64 (x.x1:Int),.int .u64 (x.x2:Int),.int .u64 (x.x3:Int)] 226)) (Za w3 _)) (by simp[Value.oneCell',W4.cs]) ω Zs ω σ _ (by rfl) ?_;intro g4 k4 w4 a5 R e5;obtain⟨a1,e0,f0⟩:=M a5 R;have HA:=zh a1;clear a5 R a1)
 all_goals (
  obtain⟨w5,V⟩:=zx (w4.setCell ⟨sb,0,none⟩ (.slice (some ⟨g4,0,none⟩) (ws.length+1) k4));have c:=HA;rw[<-V] at c ⊢;have F:=zh c.1;have a9:=zh c.2.1;have m:=zh c.2.2.1;have d1:=F.c1;have b6:=zh F.fs;have d9:sb+1<=w5.heap.size:=by have:=m.lt;omega
  have A:=zh c.2.2.2;have a7:¬ w.heap.size+1=sb:=ω;have e1:¬ w.heap.size+1+1=sb:=ω;have d8:¬ sb=w.heap.size+1:=ω;have d4:¬ sb=w.heap.size+1+1:=ω;clear HA c V y0 y1 y2 y3 y4 d0 c2 b0 e0 f0 D c0 c1;go_wp2_with (at_builtin;refine aD _ rfl (.tmp 36) (.tmp 38) 144 rfl (sb+1) 150 i1 _ 4 32 underlying144 b7 c4 c9 b1 rfl Zr vf e.fs.length (e.fs.flatMap W4.cs) rfl (Zm b6 _) ⟨w5.heap.size,0,none⟩ 1 1 [.int .u64 0,.int .u64 0,.int .u64 0,.int .u64 0] rfl rfl (news_of_block (Za w5 _)) Zt ω Zs ω σ _ rfl ?_;intro g5 k5 w6 L J d2;have d:Below w5.heap.size w5 (w5.alloc (.cells #[.int .u64 0,.int .u64 0,.int .u64 0,.int .u64 0] 150)):=ZA;obtain⟨q1,q2,q3,q4⟩:=ch.addF (x:=⟨0,0,0,0⟩) (F.below d) L rfl J;have c6:Hid (ch (w6.setCell ⟨sb,1,none⟩ (.slice (some ⟨g5,0,none⟩) (e.fs.length+1) k5)) sb (.slice (some ⟨g4,0,none⟩) (ws.length+1) k4) (.slice (some ⟨g5,0,none⟩) (e.fs.length+1) k5) ⟨e.bs++[S],e.fs++[⟨0,0,0,0⟩]⟩):=q1;have a8:Hid (gj sb w vb vf (w6.setCell ⟨sb,1,none⟩ (.slice (some ⟨g5,0,none⟩) (e.fs.length+1) k5)) (.slice (some ⟨g4,0,none⟩) (ws.length+1) k4) (.slice (some ⟨g5,0,none⟩) (e.fs.length+1) k5)):=a9.trans ((gj.of_below d).trans q2);have c3:Hid (∀ b,eJ sb (.slice (some ⟨g4,0,none⟩) (ws.length+1) k4) (.slice (some ⟨g5,0,none⟩) (e.fs.length+1) k5) b->b<w.heap.size\/w.heap.size+3<=b):=(λb hb=>(by rcases q2.new b hb with q|q;exact A b q;exact .inr (ξ d.size m.lt)));have y:Hid (AB w6 w.heap.size (.slice ga 0 gc) x (fv n)):=m.keep (λj h1 h2=>(ct rfl J (ξ d.size m.lt) (λq=>by rcases A j (.inr (.inr q)) with q'|q'<;>omega)).trans (d.block j (η m.lt)));obtain⟨z0,z1,z2,z3,z4,z5,z6,z7,z8⟩:=eX y.k1;have zf:∀ o,w6.frozen? ⟨w.heap.size+1,o,none⟩=false:=(λo=>by simp[frozen?,y.out.k1]);obtain⟨s0,s1,s2,s3,-⟩:=y.k2;clear L J d2 d q1 q2)
  obtain⟨w7,a6⟩:=zx (w6.setCell ⟨sb,1,none⟩ (.slice (some ⟨g5,0,none⟩) (e.fs.length+1) k5));have a4:=c6;have a2:=a8;have b2:w7.heap[w.heap.size+1]?=some (.cells zC 152):=by rw[a6,ah _ _ _ _ a7];exact y.k1
  rw[<-a6] at a4 a2 ⊢;obtain⟨W,hW⟩:=zx (S9 w7 (w.heap.size+1) ⟨fv n,fv n,false⟩);have Y:=hW;simp only[S9] at Y;rw[<-Y];have hq:W.heap[w.heap.size+1]?=some (.cells (ik ⟨fv n,fv n,false⟩) 152):=by rw[hW];exact fx _ b2
  obtain⟨r0,r1,r2,r3,r4,r5,r6,r7,r8⟩:=bP hq;refine Zb (v:=pE ⟨fv n,fv n,false⟩) (by simp[results,results198,go_sem,r0,r1,r2,r3,r4,r5,r6,r7,r8]) rfl ?_;rw[HR.out.1,HR.out.2];refine⟨rfl,(.slice (some ⟨g4,0,none⟩) (ws.length+1) k4),(.slice (some ⟨g5,0,none⟩) (e.fs.length+1) k5),?_,?_⟩
  .rw[hW];exact ch.put a4 (λq=>by rcases c3 _ q with q'|q'<;>omega) _
  .rw[hW]
   exact gj.put a2 ω _)
end Go.Proofs.YtbjabpodkaokjaaGreatDoor

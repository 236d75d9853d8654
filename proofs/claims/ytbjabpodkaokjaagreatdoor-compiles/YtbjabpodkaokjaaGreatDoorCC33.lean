import Derived.Test.YtbjabpodkaokjaaGreatDoorCC04
import Derived.Test.YtbjabpodkaokjaaGreatDoorCC31
import Derived.Great.Walk
set_option linter.all false
set_option maxHeartbeats 4000000
set_option maxRecDepth 100000
open List Nat Go.World Go.Proofs.Tryz
namespace Go.Proofs.YtbjabpodkaokjaaGreatDoor.Sx
open Go.RowKit
variable {w:World}{b g:Nat}{s:ByteArray}{r t:List UInt8}{c:UInt8}{r':List UInt8}{A:Nat->Bool}{v:Int}{B:Nat->Bool}{x:World}{C:Nat->Bool}{kv:Value}{mn mx sg:Int}{y:World}{o n:Nat}{S:Nat->Bool}{k:Nat}{kind z:Int}{i:Nat}{a:Act}{r1:List UInt8}{T:Nat->Bool}{N:Nat}{P:Program}{p:Tmp}
def ii {c k:UInt8} (h:c≠k):((c.toNat:Int)==(k.toNat:Int))=false:=by
 simp;intro e;exact h (UInt8.toNat_inj.mp ω)
def gY:List UInt8->Bool
 |[]=>true
 |c::t=>c==124||c==41||(c==36&&t.isEmpty)
def Mk.cells (h:Mk w b s r):∃ k:Nat,w.cell? ⟨b,0,none⟩=some (.string s)/\w.cell? ⟨b,1,none⟩=some (.int .i64 k)/\k+r.length=s.size/\v_ s k=r/\s.size<=200/\b<w.heap.size/\∀ o,w.frozen? ⟨b,o,none⟩=false:=by
 obtain⟨⟨k,c0,c1,hk,hs⟩,fz,lt,sz⟩:=h;exact⟨k,c0,c1,by rw[<-hs,mC];omega,hs,sz,lt,fz⟩
variable (w b s r) in
def G_ (h:Mk w b s r) :
  Calls prog 189 #[.pointer (some ⟨b,0,none⟩)] w λe w'=>e=.returned (.bool (gY r))/\EF w w' b s r:=by
 have hh:=dT w b s r h;obtain rfl|⟨c,t,rfl⟩:r=[]\/∃ c t,r=c::t:=by cases r<;>simp
 rotate_left
 simp only[wg] at hh;obtain rfl|rfl|⟨rfl,rfl⟩|⟨rfl,a,t',rfl⟩|⟨q1,q2,q3⟩:c=124\/c=41\/(c=36/\t=[])\/(c=36/\∃ a t',t=a::t')\/(c≠124/\c≠41/\c≠36):=by cases t<;>simp<;>grind
 rotate_left 4
 have p1:((c.toNat:Int)==124)=false:=ii q1;have p2:((c.toNat:Int)==41)=false:=ii q2;have p3:((c.toNat:Int)==36)=false:=ii q3;have e:gY (c::t)=false:=by simp[gY,q1,q2,q3]
 rw[e]
 all_goals
  go_enter func189,ntmps189
  go_wp2_with (go_at_call 86;refine hh.mono ?_;rintro e w1 ⟨rfl,g1,f⟩;obtain⟨k,c0,c1,hk,hs,sz,lt,fz⟩:=g1.cells;simp at hk)
  first|have hq:((k:Int)==(s.size:Int)-1)=true:=σ|have hq:((k:Int)==(s.size:Int)-1)=false:=σ|skip
  first|have d:¬(s.size:Int)<=k:=ω|have d:¬(k:Int)<s.size:=ω
  go_quiet (fail)
  go_wp2
  go_ret
  exact⟨rfl,g1.drewN _,(ν f)⟩
theorem Mk.left (h:Mk w b s r):leftOf b s w=r.length:=by
 obtain⟨k,c0,c1,hk,hs,sz,lt,fz⟩:=h.cells;simp[leftOf,c1,intOf];omega
def Mk.next (h:Mk w b s (c::t))  (hk:k+(c::t).length=s.size):Mk (w.setCell ⟨b,1,none⟩ (.int .i64 ((k:Int)+1))) b s t:=by
 obtain⟨k',c0,c1,d,hs,sz,lt,fz⟩:=h.cells;have e:k'=k:=ω;subst e;have:=h.to (k'+1) (by simp at hk;omega);obtain⟨_,_,e2⟩:=fh hs;rw[e2] at this
 simpa using this
def Mk.byte (h:Mk w b s (c::t)):∃(k:Nat) (d:k<s.size),s[k]=c/\w.cell? ⟨b,0,none⟩=some (.string s)/\w.cell? ⟨b,1,none⟩=some (.int .i64 k)/\k+(c::t).length=s.size/\s.size<=200/\b<w.heap.size/\(∀ o,w.frozen? ⟨b,o,none⟩=false):=by
 obtain⟨k,c0,c1,hk,hs,sz,lt,fz⟩:=h.cells;obtain⟨d,e1,e2⟩:=fh hs;exact⟨k,d,e1,c0,c1,hk,sz,lt,fz⟩
def Ha (c:UInt8):Bool:=decide (48<=c.toNat/\c.toNat<=57)
variable (w b s r r') in
def lH (least v:Int) (h:Mk w b s r) (hD:aK least 0 false r=.ok v r') (hr:∀ c t,r'=c::t->Ha c=false) :
  Calls prog 214 #[.pointer (some ⟨b,0,none⟩)] w λe w'=>e=.returned (.int .i64 v)/\nG w w' b s r':=by
 go_enter func214,ntmps214
 go_wp2
 go_loopw [3] (λi wr=>∃(d:Int) (f:Bool) (rr:List UInt8),i=.int .i64 d/\Mk wr b s rr/\Rd b w wr/\aK least d f rr=.ok v r'/\0<=d/\d<=30) (λ_ wr=>leftOf b s wr)
 case atStart=>exact⟨0,false,r,rfl,h,Rd.refl _ _,hD,ω,ω⟩
 case round=>
  obtain⟨d,f,rr,rfl,hm,j,hP,v0,v1⟩:=hrel;have HP:=zh hP;clear hP hD
  match rr,hm,HP with
  |[],hm,HP=>
   have e:d=v/\[]=r':=by
    have:=HP.out;simp only[aK] at this
    split at this
    .injection this with a b;exact⟨a,b⟩
    .simp at this
   obtain⟨rfl,rfl⟩:=e;obtain⟨k,c0,c1,hk,hs,sz,lt,fz⟩:=hm.cells;simp at hk;have l:¬(k:Int)<s.size:=ω;go_wp2
   go_quiet (fail)
   go_wp2
   go_ret
   exact⟨rfl,hm.drewN _,(ς j)⟩
  |c::t,hm,HP=>
   obtain⟨k,u,e1,c0,c1,hk,sz,lt,fz⟩:=hm.byte;have hc:=c.toNat_lt
   by_cases hd:Ha c=true
   .have m:48<=c.toNat/\c.toNat<=57:=by simpa [Ha] using hd
    have HN:Hid (aK least (d*10+(c.toNat-48)) true t=.ok v r'/\0<=d*10+((c.toNat:Int)-48)/\d*10+((c.toNat:Int)-48)<=30):=by
     have:=HP.out;simp only[aK] at this
     split at this
     .rename_i q;refine⟨this,ω,?_⟩;have q4:=q.2.2.2;unfold bm at q4;split at q4
      .simp at q4
      .omega
     .split at this
      .injection this with a b;have:=hr c t b.symm;rw[hd] at this;simp at this
      .simp at this
    clear HP hr;have HM:=zh hm;clear hm;have n1:(48:Int)<=c.toNat:=ω;have n2:(c.toNat:Int)<=57:=ω;subst e1;go_wp2
    go_quiet (fail)
    go_wp2
    go_quiet (fail)
    go_wp2
    go_roundw
    case rel=>exact⟨_,true,t,π,(HM.drewN _).next hk,(j.drewN _).setCell _ _,HN⟩
    case measure=>
     rw[((HM.out.drewN _).next hk).left,HM.out.left];simp
   .have e:d=v/\c::t=r':=by
     have:=HP.out;simp only[aK] at this
     split at this
     .rename_i q;exact absurd (by simp[Ha];omega) hd
     .split at this
      .injection this with a b;exact⟨a,b⟩
      .simp at this
    obtain⟨rfl,rfl⟩:=e;clear HP hr;have HM:=zh hm;clear hm
    by_cases hlo:48<=c.toNat
    .have n1:(48:Int)<=c.toNat:=ω;have n2:¬(c.toNat:Int)<=57:=by simp[Ha] at hd;omega
     subst e1;go_wp2
     go_quiet (fail)
     go_wp2
     go_ret
     exact⟨rfl,HM.drewN _,(ς j)⟩
    .have n1:decide ((48:Int)<=c.toNat)=false:=σ;subst e1;go_wp2
     go_quiet (fail)
     go_wp2
     go_ret
     exact⟨rfl,HM.drewN _,(ς j)⟩
structure sN (b g:Nat) (w w':World):Prop where
 os:w'.os=w.os
 tape:w'.tape=w.tape
 output:w'.output=w.output
 size:w.heap.size<=w'.heap.size
 block:∀ k,k<w.heap.size->k≠b->k≠g->w'.heap[k]?=w.heap[k]?
theorem sN.refl (b g:Nat) (w:World):sN b g w w:=⟨rfl,rfl,rfl,zq,λ_ _ _ _=>rfl⟩
def sN.rd {x y z:World} (h:sN b g x y) (r:Rd b y z):sN b g x z:=
 ⟨r.os.trans h.os,r.tape.trans h.tape,r.output.trans h.output,Zc h.size r.size,λk hk h1 h2=>(r.block k (Zd hk h.size) h1).trans (h.block k hk h1 h2)⟩
def sN.below {x y z:World} (h:sN b g x y) (r:Below y.heap.size y z):sN b g x z:=h.rd (Rd.of_below r)
def sN.set1 (h:sN b g x y) (o:Nat) (v:Value):sN b g x (y.setCell ⟨b,o,none⟩ v):=h.rd ((Rd.refl b y).setCell o v)
def sN.set2 (h:sN b g x y) (o:Nat) (v:Value):sN b g x (y.setCell ⟨g,o,none⟩ v):=
 ⟨h.os,h.tape,h.output,by simpa [World.setCell] using h.size,λk hk h1 h2=>(Zf _ _ _ _ h2).trans (h.block k hk h1 h2)⟩
def Mk.far (h:Mk w b s r) (hg:b≠g) (v:Value):Mk (w.setCell ⟨g,o,none⟩ v) b s r:=
 h.keep (Zf _ _ _ _ hg) (by simp[World.setCell])
def Tr.far (h:Tr w g kind B kv mn mx sg)  (hb:g≠b) (v:Value):Tr (w.setCell ⟨b,o,none⟩ v) g kind B kv mn mx sg:=
 h.of_heap (Zf _ _ _ _ hb)
abbrev vU (b:Nat) (s:ByteArray) (r r':List UInt8) (v:Int):Prop:=∀ w,Mk w b s r->Calls prog 214 #[.pointer (some ⟨b,0,none⟩)] w λe w'=>e=.returned (.int .i64 v)/\nG w w' b s r'
abbrev jN (b:Nat) (s:ByteArray) (r:List UInt8):Prop:=∀ w,Mk w b s r->Calls prog 86 #[.pointer (some ⟨b,0,none⟩)] w λe w'=>e=.returned (.int .u8 (wg r).toNat)/\EF w w' b s r
variable (w b g s r t v B kv mn mx sg) in
def Hb (h:Mk w b s r) (hT:Tr w g 3 B kv mn mx sg) (hne:b≠g) (hn:vU b s r (125::t) v) (hh:jN b s (125::t)) :
  Calls prog 203 #[.pointer (some ⟨b,0,none⟩),.pointer (some ⟨g,0,none⟩)] w λe w'=>e=.returned (.tuple #[])/\Mk w' b s t/\Tr w' g 3 B kv v v sg/\sN b g w w':=by
 go_enter func203,ntmps203
 go_wp2_with (first|(go_at_call 86;refine(hh _ ((g1.far hne _).far hne _)).mono ?_;rintro e w2 ⟨rfl,g2,d⟩;have t2:=((t1.least v).most v).of_heap (d.block _ ((t1.least v).most v).lt);obtain⟨k,l,e1,c0,c1,hk,sz,lt,fz⟩:=g2.byte)|(go_at_call 214;refine(hn _ h).mono ?_;rintro e w1 ⟨rfl,g1,f⟩;have t1:=hT.of_heap (f.block _ hT.lt hne.symm);have j:=t1;obtain⟨u0,uB,uk,um,ux,us,uf⟩:=j))
 go_end0
 exact⟨rfl,g2.next hk,t2.far hne.symm _,((((sN.refl b g w).rd f).set2 _ _).set2 _ _).below d |>.set1 _ _⟩
variable (w b g s r t v B kv mn mx sg) in
def Hc (h:Mk w b s r) (hT:Tr w g 3 B kv mn mx sg) (hne:b≠g) (hn:vU b s r (44::125::t) v) (hh:jN b s (44::125::t)) (hh2:jN b s (125::t)) :
  Calls prog 203 #[.pointer (some ⟨b,0,none⟩),.pointer (some ⟨g,0,none⟩)] w λe w'=>e=.returned (.tuple #[])/\Mk w' b s t/\Tr w' g 3 B kv v (-1) sg/\sN b g w w':=by
 go_enter func203,ntmps203
 go_wp2_with (first|(go_at_call 86;refine(hh2 _ ((g2.next hk).far hne _)).mono ?_;rintro e w3 ⟨rfl,g3,l⟩;have t3:=((t2.far hne.symm _).most (-1)).of_heap (l.block _ ((t2.far hne.symm _).most (-1)).lt);obtain⟨j,E,f1,d0,d1,hj,F,D,G⟩:=g3.byte)|(go_at_call 86;refine(hh _ ((g1.far hne _).far hne _)).mono ?_;rintro e w2 ⟨rfl,g2,d⟩;have t2:=((t1.least v).most v).of_heap (d.block _ ((t1.least v).most v).lt);obtain⟨k,u,e1,c0,c1,hk,sz,lt,fz⟩:=g2.byte;have q:=t2;obtain⟨x0,xB,xk,xm,xx,xs,xf⟩:=q)|(go_at_call 214;refine(hn _ h).mono ?_;rintro e w1 ⟨rfl,g1,f⟩;have t1:=hT.of_heap (f.block _ hT.lt hne.symm);have m:=t1;obtain⟨u0,uB,uk,um,ux,us,uf⟩:=m))
 go_end0
 exact⟨rfl,g3.next hj,t3.far hne.symm _,((((((sN.refl b g w).rd f).set2 _ _).set2 _ _).below d |>.set1 _ _).set2 _ _).below l |>.set1 _ _⟩
variable (w b g s) in
def Hd (r t t':List UInt8) (v v2:Int) (B:Nat->Bool) (kv:Value) (mn mx sg:Int) (h:Mk w b s r) (hT:Tr w g 3 B kv mn mx sg) (hne:b≠g) (hn:vU b s r (44::t) v) (hh:jN b s (44::t)) (hh2:jN b s t) (hc:wg t≠125) (hn2:vU b s t (125::t') v2) :
  Calls prog 203 #[.pointer (some ⟨b,0,none⟩),.pointer (some ⟨g,0,none⟩)] w λe w'=>e=.returned (.tuple #[])/\Mk w' b s t'/\Tr w' g 3 B kv v v2 sg/\sN b g w w':=by
 have F:(((wg t).toNat:Int) != 125)=true:=by have:=ii hc;simp at this ⊢;exact this
 go_enter func203,ntmps203
 go_wp2_with (first|(go_at_call 214;refine(hn2 _ g3).mono ?_;rintro e w4 ⟨rfl,g4,d⟩;have t4:=t3.of_heap (d.block _ t3.lt hne.symm);have u:=t4;obtain⟨y0,yB,yk,ym,yx,ys,yf⟩:=u;obtain⟨j,H,f1,d0,d1,hj,I,G,J⟩:=g4.byte)|(go_at_call 86;refine(hh2 _ ((g2.next hk).far hne _)).mono ?_;rintro e w3 ⟨rfl,g3,m⟩;have t3:=((t2.far hne.symm _).most (-1)).of_heap (m.block _ ((t2.far hne.symm _).most (-1)).lt))|(go_at_call 86;refine(hh _ ((g1.far hne _).far hne _)).mono ?_;rintro e w2 ⟨rfl,g2,f⟩;have t2:=((t1.least v).most v).of_heap (f.block _ ((t1.least v).most v).lt);obtain⟨k,E,e1,c0,c1,hk,sz,lt,fz⟩:=g2.byte;have D:=t2;obtain⟨x0,xB,xk,xm,xx,xs,xf⟩:=D)|(go_at_call 214;refine(hn _ h).mono ?_;rintro e w1 ⟨rfl,g1,l⟩;have t1:=hT.of_heap (l.block _ hT.lt hne.symm);have q:=t1;obtain⟨u0,uB,uk,um,ux,us,uf⟩:=q))
 go_end0
 exact⟨rfl,(g4.far hne _).next hj,(t4.most v2).far hne.symm _,((((((((sN.refl b g w).rd l).set2 _ _).set2 _ _).below f |>.set1 _ _).set2 _ _).below m).rd d |>.set2 _ _).set1 _ _⟩
variable (w b g s r r') in
def D9 (a z:Int) (B:Nat->Bool) (kv:Value) (mn mx sg:Int) (h:Mk w b s r) (hT:Tr w g 3 B kv mn mx sg) (hne:b≠g) (hB:dO r=.ok (a,z) r') :
  Calls prog 203 #[.pointer (some ⟨b,0,none⟩),.pointer (some ⟨g,0,none⟩)] w λe w'=>e=.returned (.tuple #[])/\Mk w' b s r'/\Tr w' g 3 B kv a z sg/\sN b g w w':=by
 have hh:∀ r,jN b s r:=λr w h=>dT w b s r h
 simp only[dO] at hB
 split at hB
 .simp at hB
 .rename_i d r1 hD
  split at hB
  .rename_i t;injection hB with e1 e2;injection e1 with e3 e4;subst e2;subst e3;subst e4;exact Hc w b g s r t d B kv mn mx sg h hT hne (λw h=>lH w b s r _ 0 d h hD (λc t e=>by injection e with e _;subst e;decide)) (hh _) (hh _)
  .rename_i t j
   split at hB
   .simp at hB
   .rename_i f r2 l
    split at hB
    .rename_i t';injection hB with e1 e2;injection e1 with e3 e4;subst e2;subst e3;subst e4;refine Hd w b g s r t t' d f B kv mn mx sg h hT hne (λw h=>lH w b s r _ 0 d h hD (λc t e=>by injection e with e _;subst e;decide)) (hh _) (hh _) ?_ (λw h=>lH w b s t _ d f h l (λc t e=>by injection e with e _;subst e;decide))
     match t,j with
     |[],_=>simp[wg]
     |c::t2,j=>intro e;simp[wg] at e;exact j t2 (by rw[e])
    .simp at hB
  .rename_i t;injection hB with e1 e2;injection e1 with e3 e4;subst e2;subst e3;subst e4;exact Hb w b g s r t d B kv mn mx sg h hT hne (λw h=>lH w b s r _ 0 d h hD (λc t e=>by injection e with e _;subst e;decide)) (hh _)
  .simp at hB
def bT {ops:Array Oper}{rest:List Oper}{o:Oper}{Q:Exit->Act->World->Prop} (hg:o.guard=none) (ho:o.op=.alloc 184) (dst:Option Tmp) (hdst:o.dst=dst) (N:Nat) (hN:w.heap.size=N)
  (h:wpList prog ops Q rest (a.put dst (.pointer (some ⟨N,0,none⟩))) (w.alloc (.cells (bA λ_=>false) 184))):wpList prog ops Q (o::rest) a w:=by
 obtain⟨i0,hi,e,j,f⟩:=info_parts Tryz.infoA;refine Great.wpList_runTo hg dst hdst _ _ ?_ h;subst hN;unfold execOp;simp only[ho,Instr.alloc,zeroValue,newVar,newRow,Sem.run_bind,run_newObj_alloc,Sem.run_pure,Result.andThen_ok];have d:(typeInfo 184).run prog w=.ok i0 w:=by unfold typeInfo;simp[hi]
 rw[d];simp[e,Value.cells]
def below_setCells {B:Nat} (h:Below B w x) (b:Nat) (hb:B<=b):∀(vs:List Value) (o:Nat),Below B w (x.setCells b o vs):=by
 intro vs
 induction vs generalizing x with
 |nil=>intro o;exact h
 |cons v r ih=>intro o;simp only[setCells];exact ih (h.setCell hb _) (o+1)
def kX {c:Nat} (h:Rd c w x) (b:Nat) (hb:w.heap.size<=b) (vs:List Value) (o:Nat):Rd c w (x.setCells b o vs):=by
 have hl:=below_setCells (Below.refl w.heap.size x) b hb vs o;exact⟨hl.os.trans h.os,hl.tape.trans h.tape,hl.output.trans h.output,Zc h.size hl.size,λk hk hne=>(hl.block k hk).trans (h.block k hk hne)⟩
def ou {fn:Func}{ty:TypeId} (h:fn.results=#[.cell p ty]) (tmps:Array Value) (w:World) (g:Nat) (cs:List Value) (d:TypeDesc)
  (hp:tmps.getD p undef=.pointer (some ⟨g,0,none⟩)) (hc:w.rangeAt g 0 cs)
  (hu:P.underlying ty=some d) (hd:d.isRow=true) (hi:(P.info? ty).map (·.size)=some cs.length) :
  (results fn tmps).run P w=.ok (.agg cs.toArray) w:=by
 have e:tmps[p]?.getD undef=.pointer (some ⟨g,0,none⟩):=by simpa using hp
 simp[results,h,e,asAddr,run_loadVar_mid w g 0 ty cs d hc hu hd hi]
def cq {fn:Func}{u p:Tmp}{ty:TypeId} (h:fn.results=#[.tmp u,.cell p ty]) (tmps:Array Value) (w:World) (g:Nat) (cs:List Value) (d:TypeDesc) (v:Value) (hv:tmps.getD u undef=v)
  (hp:tmps.getD p undef=.pointer (some ⟨g,0,none⟩)) (hc:w.rangeAt g 0 cs)
  (hu:P.underlying ty=some d) (hd:d.isRow=true) (hi:(P.info? ty).map (·.size)=some cs.length) :
  (results fn tmps).run P w=.ok (.tuple #[v,.agg cs.toArray]) w:=by
 have f:tmps[p]?.getD undef=.pointer (some ⟨g,0,none⟩):=by simpa using hp
 have e:tmps[u]?.getD undef=v:=by simpa using hv
 simp[results,h,f,e,asAddr,run_loadVar_mid w g 0 ty cs d hc hu hd hi]
def D_ (k:Nat) (h:k<256):k<9\/k=9\/k=10\/(10<k/\k<13)\/k=13\/(13<k/\k<32)\/k=32\/(32<k/\k<48)\/(48<=k/\k<=57)\/(57<k/\k<65)\/(65<=k/\k<=90)\/(90<k/\k<95)\/k=95\/k=96\/(97<=k/\k<=122)\/122<k:=ω
def Bs.congr (h:Bs w g B) (e:∀ i,B i=C i):Bs w g C:=by
 have:B=C:=funext e;rw[<-this];exact h
variable (S k) in
def uw (v:Bool) (hv:S k=v) (i:Nat):(if i=k then v else decide (i<k)&&S i)=(decide (i<k+1)&&S i):=by
 by_cases e:i=k
 .subst e;simp[hv]
 .have:(i<k+1)=(i<k):=σ;simp[e,this]
abbrev LG:Nat->Bool:=λn=>ax 48 57 n||ax 65 90 n||ax 95 95 n||ax 97 122 n
abbrev LH:Nat->Bool:=λn=>ax 9 10 n||ax 13 13 n||ax 32 32 n
def yA (w:World) (c:Int) (S:Nat->Bool) (hc:(c=100/\S=ax 48 57)\/(c=119/\S=LG)\/(c=115/\S=LH)) :
  Calls prog 226 #[.int .u8 c] w λe w'=>e=.returned (.agg (bA S))/\Below w.heap.size w w':=by
 rcases hc with⟨rfl,hS⟩|⟨rfl,hS⟩|⟨rfl,hS⟩
 all_goals
  have HS:Hid (S=_):=hS;clear hS
  go_enter func226,ntmps226
  go_wp2_with (first|(refine bT rfl rfl _ rfl w.heap.size rfl ?_;generalize f:World.alloc w _=w1;have b1:Bs w1 w.heap.size (λ_=>false):=(by rw[<-f];exact iW _ _ _);have l1:Below w.heap.size w w1:=(by rw[<-f];exact ZA);have z1:w1.heap.size=w.heap.size+1:=(by rw[<-f];simp);clear f)|(refine bT rfl rfl _ rfl (w.heap.size+1) z1 ?_;generalize d:World.alloc w1 _=w2;have b2:Bs w2 (w.heap.size+1) (λ_=>false):=(by rw[<-d,<-z1];exact iW _ _ _);have O:Bs w2 w.heap.size (λ_=>false):=(by rw[<-d];exact b1.of_heap (Ze _ _ _ ω));have l2:Below w.heap.size w w2:=(by rw[<-d];exact l1.alloc ω _);have z2:w2.heap.size=w.heap.size+2:=(by rw[<-d];simp[z1]);clear d))
  go_loopw [4] (λi wr=>∃ k:Nat,k<=256/\i=.int .i64 k/\Bs wr (w.heap.size+1) (λj=>decide (j<k)&&S j)/\Bs wr w.heap.size (λ_=>false)/\Below w.heap.size w wr/\wr.heap.size=w.heap.size+2) (λi _=>256-(intOf i).toNat)
  case atStart=>exact⟨0,ω,rfl,by simpa using b2,O,l2,z2⟩
  case round=>
   obtain⟨k,hk,rfl,hb,h,hl,hz⟩:=hrel
   by_cases hlt:k<256
   .have J:=hb.cB k hlt;have Q:=hb.fz k;rcases D_ k hlt with q|q|q|q|q|q|q|q|q|q|q|q|q|q|q|q
    all_goals
     (first|(have K:decide ((48:Int)<=k)=false:=σ)|(have K:(48:Int)<=k:=ω))
     (first|(have D:decide ((97:Int)<=k)=false:=σ)|(have D:(97:Int)<=k:=ω))
     (first|(have M:decide ((65:Int)<=k)=false:=σ)|(have M:(65:Int)<=k:=ω))
     (first|(have F:decide ((k:Int)<=57)=false:=σ)|(have F:(k:Int)<=57:=ω))
     (first|(have u:decide ((k:Int)<=122)=false:=σ)|(have u:(k:Int)<=122:=ω))
     (first|(have G:decide ((k:Int)<=90)=false:=σ)|(have G:(k:Int)<=90:=ω))
     (first|(have E:((k:Int)==95)=false:=σ)|(have E:((k:Int)==95)=true:=σ))
     (first|(have e9:((k:Int)==9)=false:=σ)|(have e9:((k:Int)==9)=true:=σ))
     (first|(have I:((k:Int)==10)=false:=σ)|(have I:((k:Int)==10)=true:=σ))
     (first|(have H:((k:Int)==13)=false:=σ)|(have H:((k:Int)==13)=true:=σ))
     (first|(have L:((k:Int)==32)=false:=σ)|(have L:((k:Int)==32)=true:=σ))
     (first|(have HV:Hid (S k=false):=by show _=_;rw[HS.out];simp[ax]<;>omega)|(have HV:Hid (S k=true):=by show _=_;rw[HS.out];simp[ax]<;>omega))
     clear q;go_wp2
     go_roundw
     case rel=>first|exact⟨k+1,ω,π,(hb.bit k hlt false).congr (uw S k false HV.out),h.of_heap (Zf _ _ _ _ χ),(Δ hl),by simpa [World.setCell] using hz⟩|exact⟨k+1,ω,π,(hb.bit k hlt true).congr (uw S k true HV.out),h.of_heap (Zf _ _ _ _ χ),(Δ hl),by simpa [World.setCell] using hz⟩
     case measure=>simp[intOf]<;>omega
   .have e:k=256:=ω;subst e;have m:Bs wr (w.heap.size+1) S:=⟨λi hi=>by rw[hb.cB i hi];simp[hi],hb.fz⟩
    go_wp2_with (first|(refine wpList_load_mid rfl 184 (.tmp 3) rfl (w.heap.size+1) 0 rfl (bL S) _ m.range underlying184 rfl (by rw[dc];exact fU) ?_)|(refine wpList_store_mid rfl 184 (.tmp 2) (.tmp 71) rfl w.heap.size 0 (bA S) rfl rfl (by rw[cC];exact h.there) (by rw[cC];exact fU) (jt S) ?_))
    generalize l:setCells wr _ _ _=w4;have b4:Bs w4 w.heap.size S:=by rw[<-l];exact h.all S
    have l4:Below w.heap.size w w4:=by rw[<-l];exact below_setCells hl _ zq _ _
    clear l;exact Zb (v:=.agg (bA S)) (ou results226 _ _ w.heap.size (bL S) _ rfl b4.range underlying184 rfl (by rw[dc];exact fU)) rfl ⟨rfl,l4⟩
abbrev arr (S:Nat->Bool):Value:=.agg (bA S)
abbrev aT:Nat->Bool:=λ_=>false
def rT (a:Act):prog.built 184 ((#[]:Array (Nat×Operand)).map λ(i,x)=>(i,a.eval x)).toList=some (bA aT):=by
 have:((#[]:Array (Nat×Operand)).map λ(i,x)=>(i,a.eval x)).toList=[]:=χ;rw[this];exact Ig
def gO (hy:x.setCells N 0 (bL S)=y) (h:Mk x b s r) (hr:Rd b w x) (hB:Bs x N B) (hN:w.heap.size<=N) (hb:b<w.heap.size):Mk y b s r/\Rd b w y/\Bs y N S:=by
 subst hy;exact⟨h.keep (cg _ _ _ _ _ ω) (by rw[size_setCells];exact zq),kX hr N hN _ _,hB.all S⟩
variable (w b s t c v) in
def ov (h:Mk w b s (c::t)) (hv:(c=110/\v=10)\/(c=116/\v=9)\/(c≠110/\c≠116/\c≠100/\c≠119/\c≠115/\c≠120/\v=c.toNat)) :
  Calls prog 213 #[.pointer (some ⟨b,0,none⟩)] w λe w'=>e=.returned (.tuple #[.int .i64 v,arr aT])/\nG w w' b s t:=by
 have j:=h.lt;have m:=c.toNat_lt;rcases hv with⟨rfl,rfl⟩|⟨rfl,rfl⟩|⟨n1,n2,n3,n4,n5,n6,rfl⟩
 rotate_left 2
 have q1:((c.toNat:Int)==110)=false:=ii n1;have q2:((c.toNat:Int)==116)=false:=ii n2;have q3:((c.toNat:Int)==100)=false:=ii n3;have q4:((c.toNat:Int)==119)=false:=ii n4;have q5:((c.toNat:Int)==115)=false:=ii n5;have q6:((c.toNat:Int)==120)=false:=ii n6;clear n1 n2 n3 n4 n5 n6
 all_goals
  go_enter func213,ntmps213
  go_wp2_with (refine bT rfl rfl _ rfl w.heap.size rfl ?_;generalize d:World.alloc w _=w1;have b1:Bs w1 w.heap.size aT:=(by rw[<-d];exact iW _ _ _);have r1:Rd b w w1:=(by rw[<-d];exact(Rd.refl _ _).alloc _);have g1:Mk w1 b s (_::t):=(by rw[<-d];exact h.alloc _);have z1:w1.heap.size=w.heap.size+1:=(by rw[<-d];simp);clear d;obtain⟨k,l,e1,c0,c1,hk,sz,lt,fz⟩:=g1.byte)
  go_quiet (fail)
  have b2:Bs ((w1.drewN nq).setCell ⟨b,1,none⟩ (.int .i64 ((k:Int)+1))) w.heap.size aT:=b1.of_heap (Zf _ _ _ _ σ);have g2:=(g1.drewN nq).next hk;have r2:Rd b w ((w1.drewN nq).setCell ⟨b,1,none⟩ (.int .i64 ((k:Int)+1))):=(r1.drewN _).setCell _ _;go_wp2_with (first|(refine wpList_buildTo rfl 184 #[] rfl _ rfl (bA aT) (rT _) ?_)|(refine wpList_store_mid rfl 184 (.tmp 3) _ rfl w.heap.size 0 (bA aT) rfl rfl (by rw[cC];exact b2.there) (by rw[cC];exact fU) (jt _) ?_;generalize f:setCells _ _ _ _=w3;obtain⟨g3,r3,b3⟩:=gO f g2 r2 b2 zq j;clear f))
  exact Zb (v:=.tuple #[_,arr aT]) (cq results213 _ _ w.heap.size (bL aT) _ _ rfl rfl b3.range underlying184 rfl (by rw[dc];exact fU)) rfl ⟨rfl,g3,r3⟩
variable (w b s t c S) in
def Ea (h:Mk w b s (c::t)) (hv:(c=100/\S=ax 48 57)\/(c=119/\S=LG)\/(c=115/\S=LH)) :
  Calls prog 213 #[.pointer (some ⟨b,0,none⟩)] w λe w'=>e=.returned (.tuple #[.int .i64 (-1),arr S])/\nG w w' b s t:=by
 have j:=h.lt;have l:=λw x (hx:x=(c.toNat:Int))=>yA w x S (by rcases hv with⟨rfl,q⟩|⟨rfl,q⟩|⟨rfl,q⟩<;>simp[q,hx])
 rcases hv with⟨rfl,-⟩|⟨rfl,-⟩|⟨rfl,-⟩
 all_goals
  go_enter func213,ntmps213
  go_wp2_with (refine bT rfl rfl _ rfl w.heap.size rfl ?_;generalize d:World.alloc w _=w1;have b1:Bs w1 w.heap.size aT:=(by rw[<-d];exact iW _ _ _);have r1:Rd b w w1:=(by rw[<-d];exact(Rd.refl _ _).alloc _);have g1:Mk w1 b s (_::t):=(by rw[<-d];exact h.alloc _);have z1:w1.heap.size=w.heap.size+1:=(by rw[<-d];simp);clear d;obtain⟨k,m,e1,c0,c1,hk,sz,lt,fz⟩:=g1.byte)
  go_quiet (fail)
  have b2:Bs ((w1.drewN nq).setCell ⟨b,1,none⟩ (.int .i64 ((k:Int)+1))) w.heap.size aT:=b1.of_heap (Zf _ _ _ _ σ);have g2:=(g1.drewN nq).next hk;have r2:Rd b w ((w1.drewN nq).setCell ⟨b,1,none⟩ (.int .i64 ((k:Int)+1))):=(r1.drewN _).setCell _ _;go_wp2_with (first|(go_at_call 226;refine(l _ _ rfl).mono ?_;rintro e w4 ⟨rfl,l4⟩;have g4:=g2.below l4;have r4:=r2.trans (Rd.of_below l4);have b4:=b2.of_heap (l4.block _ b2.lt))|(refine wpList_store_mid rfl 184 (.tmp 3) (.tmp 34) rfl w.heap.size 0 (bA S) rfl rfl (by rw[cC];exact b4.there) (by rw[cC];exact fU) (jt _) ?_;generalize f:setCells _ _ _ _=w3;obtain⟨g3,r3,b3⟩:=gO f g4 r4 b4 zq j;clear f))
  exact Zb (v:=.tuple #[.int .i64 (-1),arr S]) (cq results213 _ _ w.heap.size (bL S) _ _ rfl rfl b3.range underlying184 rfl (by rw[dc];exact fU)) rfl ⟨rfl,g3,r3⟩
def lJ {v:Nat} (h:iT c=some v):fP c.toNat=v/\v<=15:=by
 unfold iT at h;unfold fP
 split at h
 .injection h with h;subst h;rw[Zi ω,Zi ω];omega
 .split at h
  .injection h with h;subst h;rw[Zi ω,Zh ω,Zi ω,Zi ω];omega
  .simp at h
variable (w b s t) in
def Eb (x y:UInt8) (u v:Nat) (hx:iT x=some u) (hy:iT y=some v) (h:Mk w b s (120::x::y::t)) :
  Calls prog 213 #[.pointer (some ⟨b,0,none⟩)] w λe w'=>e=.returned (.tuple #[.int .i64 ((u*16+v:Nat):Int),arr aT])/\nG w w' b s t:=by
 have m:=h.lt;obtain⟨ex,ux⟩:=lJ hx;obtain⟨ey,uy⟩:=lJ hy;have O:=x.toNat_lt;have F:=y.toNat_lt;have kx:∀ w,Calls prog 146 #[.int .u8 x.toNat] w λe w'=>e=.returned (.int .i64 u)/\w'=w:=λw=>by
  have:=uA x.toNat w ω ω;rwa [ex] at this
 have ky:∀ w,Calls prog 146 #[.int .u8 y.toNat] w λe w'=>e=.returned (.int .i64 v)/\w'=w:=λw=>by
  have:=uA y.toNat w ω ω;rwa [ey] at this
 clear hx hy ex ey
 go_enter func213,ntmps213
 go_wp2_with (refine bT rfl rfl _ rfl w.heap.size rfl ?_;generalize d:World.alloc w _=w1;have b1:Bs w1 w.heap.size aT:=(by rw[<-d];exact iW _ _ _);have r1:Rd b w w1:=(by rw[<-d];exact(Rd.refl _ _).alloc _);have g1:Mk w1 b s (120::x::y::t):=(by rw[<-d];exact h.alloc _);have z1:w1.heap.size=w.heap.size+1:=(by rw[<-d];simp);clear d;obtain⟨k,G,e1,c0,c1,hk,sz,lt,fz⟩:=g1.byte)
 go_quiet (fail)
 have b2:Bs ((w1.drewN nq).setCell ⟨b,1,none⟩ (.int .i64 ((k:Int)+1))) w.heap.size aT:=b1.of_heap (Zf _ _ _ _ σ);have g2:=(g1.drewN nq).next hk;have r2:Rd b w ((w1.drewN nq).setCell ⟨b,1,none⟩ (.int .i64 ((k:Int)+1))):=(r1.drewN _).setCell _ _;go_wp2
 generalize l:World.setCell (w1.drewN nq) _ _=w2;rw[l] at b2 g2 r2;clear l c0 c1 fz;have K:k+1<s.size:=by simp at hk;omega
 have M:k+1+1<s.size:=by simp at hk;omega
 obtain⟨j,c0,c1,hj,hs,J,I,fz⟩:=g2.cells;obtain⟨E,e2,D⟩:=fh hs;obtain⟨R,e3,q⟩:=fh D;have Q:(j:Int)+1<s.size:=ω;have L:0<=(j:Int)+1:=ω;have H:((j:Int)+1).toNat=j+1:=ω
 go_quiet (first|(go_at_call_of 146 (Value.int IntKind.u8 (x.toNat:Int));exact Calls.quiet_of_same (kx _))|(go_at_call_of 146 (Value.int IntKind.u8 (y.toNat:Int));exact Calls.quiet_of_same (ky _)))
 have g3:Mk ((w2.drewN nq).setCell ⟨b,1,none⟩ (.int .i64 ((j:Int)+2))) b s t:=by
  have:=(g2.drewN nq).to (j+2) ω;rw[show v_ s (j+2)=t from q] at this
  simpa using this
 have b3:Bs ((w2.drewN nq).setCell ⟨b,1,none⟩ (.int .i64 ((j:Int)+2))) w.heap.size aT:=b2.of_heap (Zf _ _ _ _ σ);have r3:Rd b w ((w2.drewN nq).setCell ⟨b,1,none⟩ (.int .i64 ((j:Int)+2))):=(r2.drewN _).setCell _ _;go_wp2_with (first|(refine wpList_buildTo rfl 184 #[] rfl _ rfl (bA aT) (rT _) ?_)|(refine wpList_store_mid rfl 184 (.tmp 3) (.tmp 69) rfl w.heap.size 0 (bA aT) rfl rfl (by rw[cC];exact b3.there) (by rw[cC];exact fU) (jt _) ?_;generalize f:setCells _ _ _ _=w3;obtain⟨g4,r4,b4⟩:=gO f g3 r3 b3 zq m;clear f))
 have ev:(16*(u:Int)+v)=((u*16+v:Nat):Int):=ω;exact Zb (v:=.tuple #[.int .i64 ((u*16+v:Nat):Int),arr aT]) (cq results213 _ _ w.heap.size (bL aT) _ _ (by rw[<-ev];rfl) rfl b4.range underlying184 rfl (by rw[dc];exact fU)) rfl ⟨rfl,g4,r4⟩
abbrev rU (b:Nat) (s:ByteArray) (r r':List UInt8) (v:Int) (S:Nat->Bool):Prop:=
 ∀ w,Mk w b s r->Calls prog 213 #[.pointer (some ⟨b,0,none⟩)] w λe w'=>e=.returned (.tuple #[.int .i64 v,arr S])/\nG w w' b s r'
variable (b s c) in
def oY (t:List UInt8) (S:Nat->Bool) (h:bK c=some S):rU b s (c::t) t (-1) S:=by
 refine λw hw=>Ea w b s t c S hw ?_
 unfold bK at h
 (repeat' split at h)<;>simp_all<;>exact h.symm
def oZ {l v:Nat} (h:bz l r=.ok v r'):∃ c,r=c::r'/\iT c=some v:=by
 match r,h with
 |c::t,h=>
  simp only[bz] at h
  split at h
  .split at h
   .simp at h
   .injection h with e1 e2;subst e1;subst e2;exact⟨c,rfl,by assumption⟩
  .simp at h
def o_ {l v:Nat} (h:eG l r=.ok v r'):∃ x y a d,r=x::y::r'/\iT x=some a/\iT y=some d/\v=a*16+d:=by
 simp only[eG] at h
 split at h
 .simp at h
 .rename_i h1
  split at h
  .simp at h
  .rename_i h2;injection h with e1 e2;subst e1;subst e2;obtain⟨x,rfl,hx⟩:=oZ h1;obtain⟨y,rfl,hy⟩:=oZ h2;exact⟨x,y,_,_,rfl,hx,hy,rfl⟩
variable (b s) in
def nk (l v:Nat) (r r':List UInt8) (h:aE l r=.ok v r'):rU b s r r' v aT:=by
 intro w hw
 match r,h,hw with
 |c::t,h,hw=>
  simp only[aE] at h
  split at h
  .rename_i e;subst e;obtain⟨x,y,a,d,rfl,hx,hy,rfl⟩:=o_ h;exact Eb w b s r' x y a d hx hy hw
  .rename_i f
   split at h
   .rename_i z hz
    split at h
    .simp at h
    .injection h with e1 e2;subst e1;subst e2;unfold el at hz
     split at hz
     .rename_i hs;injection hz with hz;subst hz;have ne:∀ k:UInt8,lK k=false->k≠45->c≠k:=by
       intro k h1 h2 e;subst e;rcases Bool.or_eq_true _ _▸hs with q|q
       .rw[h1] at q;simp at q
       .exact h2 (by simpa using q)
      exact ov w b s t c _ hw (.inr (.inr ⟨ne _ Zr Zr,ne _ Zr Zr,ne _ Zr Zr,ne _ Zr Zr,ne _ Zr Zr,f,rfl⟩))
     .split at hz
      .rename_i e;have e:c=110:=by simpa using e
       subst e;injection hz with hz;subst hz;exact ov w b s t _ _ hw (.inl ⟨rfl,rfl⟩)
      .split at hz
       .rename_i e;have e:c=116:=by simpa using e
        subst e;injection hz with hz;subst hz;exact ov w b s t _ _ hw (.inr (.inl ⟨rfl,rfl⟩))
       .simp at hz
   .simp at h
variable (w b s t r' v S) in
def yC (h:Mk w b s (92::t)) (he:rU b s t r' v S) :
  Calls prog 225 #[.pointer (some ⟨b,0,none⟩)] w λe w'=>e=.returned (.tuple #[.int .i64 v,arr S])/\nG w w' b s r':=by
 have f:=h.lt
 go_enter func225,ntmps225
 go_wp2_with (refine bT rfl rfl _ rfl w.heap.size rfl ?_;generalize d:World.alloc w _=w1;have b1:Bs w1 w.heap.size aT:=(by rw[<-d];exact iW _ _ _);have r1:Rd b w w1:=(by rw[<-d];exact(Rd.refl _ _).alloc _);have g1:Mk w1 b s (92::t):=(by rw[<-d];exact h.alloc _);have z1:w1.heap.size=w.heap.size+1:=(by rw[<-d];simp);obtain⟨k,l,e1,c0,c1,hk,sz,lt,fz⟩:=g1.byte)
 go_quiet (fail)
 have b2:Bs ((w1.drewN nq).setCell ⟨b,1,none⟩ (.int .i64 ((k:Int)+1))) w.heap.size aT:=b1.of_heap (Zf _ _ _ _ σ);have g2:=(g1.drewN nq).next hk;have r2:Rd b w ((w1.drewN nq).setCell ⟨b,1,none⟩ (.int .i64 ((k:Int)+1))):=(r1.drewN _).setCell _ _;go_wp2_with (first|(refine wpList_store_mid rfl 184 (.tmp 3) (.tmp 26) rfl w.heap.size 0 (bA S) rfl rfl (by rw[cC];exact b4.there) (by rw[cC];exact fU) (jt _) ?_;generalize j:setCells _ _ _ _=w3;obtain⟨g3,r3,b3⟩:=gO j g4 r4 b4 zq f)|(go_at_call 213;refine(he _ g2).mono ?_;rintro e w4 ⟨rfl,g4,l4⟩;have r4:=r2.trans l4;have b4:=b2.of_heap (l4.block _ b2.lt ω)))
 exact Zb (v:=.tuple #[.int .i64 v,arr S]) (cq results225 _ _ w.heap.size (bL S) _ _ rfl rfl b3.range underlying184 rfl (by rw[dc];exact fU)) rfl ⟨rfl,g3,r3⟩
variable (w b s t c) in
def AZ (n1:c≠92) (h:Mk w b s (c::t)) :
  Calls prog 225 #[.pointer (some ⟨b,0,none⟩)] w λe w'=>e=.returned (.tuple #[.int .i64 c.toNat,arr aT])/\nG w w' b s t:=by
 have f:=h.lt;have q1:((c.toNat:Int)==92)=false:=ii n1;have m:=c.toNat_lt
 go_enter func225,ntmps225
 go_wp2_with (refine bT rfl rfl _ rfl w.heap.size rfl ?_;generalize d:World.alloc w _=w1;have b1:Bs w1 w.heap.size aT:=(by rw[<-d];exact iW _ _ _);have r1:Rd b w w1:=(by rw[<-d];exact(Rd.refl _ _).alloc _);have g1:Mk w1 b s (c::t):=(by rw[<-d];exact h.alloc _);have z1:w1.heap.size=w.heap.size+1:=(by rw[<-d];simp);obtain⟨k,l,e1,c0,c1,hk,sz,lt,fz⟩:=g1.byte)
 go_quiet (fail)
 have b2:Bs ((w1.drewN nq).setCell ⟨b,1,none⟩ (.int .i64 ((k:Int)+1))) w.heap.size aT:=b1.of_heap (Zf _ _ _ _ σ);have g2:=(g1.drewN nq).next hk;have r2:Rd b w ((w1.drewN nq).setCell ⟨b,1,none⟩ (.int .i64 ((k:Int)+1))):=(r1.drewN _).setCell _ _;go_wp2_with (first|(refine wpList_buildTo rfl 184 #[] rfl _ rfl (bA aT) (rT _) ?_)|(refine wpList_store_mid rfl 184 (.tmp 3) (.tmp 29) rfl w.heap.size 0 (bA aT) rfl rfl (by rw[cC];exact b2.there) (by rw[cC];exact fU) (jt _) ?_;generalize j:setCells _ _ _ _=w3;obtain⟨g3,r3,b3⟩:=gO j g2 r2 b2 zq f))
 exact Zb (v:=.tuple #[.int .i64 c.toNat,arr aT]) (cq results225 _ _ w.heap.size (bL aT) _ _ rfl rfl b3.range underlying184 rfl (by rw[dc];exact fU)) rfl ⟨rfl,g3,r3⟩
abbrev nm (b:Nat) (s:ByteArray) (r r':List UInt8) (v:Int) (S:Nat->Bool):Prop:=
 ∀ w,Mk w b s r->Calls prog 225 #[.pointer (some ⟨b,0,none⟩)] w λe w'=>e=.returned (.tuple #[.int .i64 v,arr S])/\nG w w' b s r'
variable (b s) in
def ox (l v:Nat) (r r':List UInt8) (h:aw l r=.ok v r'):nm b s r r' v aT:=by
 intro w hw;unfold aw at h
 split at h
 .exact yC w b s _ r' v aT hw (nk b s l v _ r' h)
 .rename_i hn
  match r,h,hw,hn with
  |c::t,h,hw,hn=>
   simp only[aP] at h
   split at h
   .simp at h
   .split at h
    .simp at h
    .rename_i q;injection h with e1 e2;subst e1;subst e2;exact AZ w b s t c (λe=>q (.inl e)) hw
variable (b s c) in
def He (t:List UInt8) (S:Nat->Bool) (h:bK c=some S):nm b s (92::c::t) t (-1) S:=
 λw hw=>yC w b s _ t (-1) S hw (oY b s c t S h)
def rV (a:Act):prog.built 187 ((#[]:Array (Nat×Operand)).map λ(i,x)=>(i,a.eval x)).toList=some (tA 0 (λ_=>false) (.slice none 0 0) 0 0 0):=by grind [If]
abbrev np (b:Nat) (s:ByteArray) (r:List UInt8) (c:UInt8):Prop:=∀ w,Mk w b s r->Calls prog 86 #[.pointer (some ⟨b,0,none⟩)] w λe w'=>e=.returned (.int .u8 c.toNat)/\EF w w' b s r
def A0 (A S:Nat->Bool) (v z:Int) (i:Nat):Bool:=A i||S i||(decide (0<=v)&&decide (v<=i)&&decide ((i:Int)<=z))
def Ci (A C:Nat->Bool) (k:Nat) (i:Nat):Bool:=if i<k then C i else A i
def pa (h:eU r=.ok T r1) :
  (∃ c,r=92::c::r1/\bK c=some T) \/
  (∃ low,aw 0 r=.ok low r1/\(∀ t,r1≠45::t)/\T=ax low low) \/
  (∃ low high t,aw 0 r=.ok low (45::t)/\aw low t=.ok high r1/\T=ax low high):=by
 have d:∀ low r2,aw 0 r=.ok low r2->dy low r2=.ok T r1->(∃ low,aw 0 r=.ok low r1/\(∀ t,r1≠45::t)/\T=ax low low) \/
  (∃ low high t,aw 0 r=.ok low (45::t)/\aw low t=.ok high r1/\T=ax low high):=by
  intro low r2 h1 h2;unfold dy at h2
  split at h2
  .grind
  .simp_all
 unfold eU at h
 split at h
 .rename_i c t
  split at h
  .simp_all
  .rename_i hS
   split at h
   .rename_i low r2 h2;exact .inr (d low r2 (by simp only[aw];exact h2) h)
   .simp at h
 .grind
theorem jO (h:eU r=.ok T r1):∃ c t,r=c::t/\c≠93/\c≠45:=by
 have pb:∀ l v r',aw l r=.ok v r'->∃ c t,r=c::t/\c≠93/\c≠45:=by
  intro l v r' h;unfold aw at h
  split at h
  .simp_all
  .match r,h with
   |c::t,h=>
    simp only[aP] at h
    split at h
    .simp at h
    .grind
 rcases pa h with⟨c,rfl,_⟩|⟨low,h1,_⟩|⟨low,d,t,h1,_⟩
 .simp_all
 .grind
 .grind
theorem Tr.drewN (h:Tr w g kind B kv mn mx sg) (n:Nat):Tr (w.drewN n) g kind B kv mn mx sg:=h.of_heap rfl
theorem Bs.drewN (h:Bs w g B) (n:Nat):Bs (w.drewN n) g B:=h.of_heap rfl
def Tr.congr (h:Tr w g kind B kv mn mx sg) (e:∀ i,i<256->B i=C i):Tr w g kind C kv mn mx sg:=by
 obtain⟨c0,cB,ck,cm,cx,cs,fz⟩:=h;exact⟨c0,λi hi=>by rw[cB i hi,e i hi],ck,cm,cx,cs,fz⟩
variable (A C k) in
def ns (v:Bool) (hv:C k=v) (i:Nat):(if i=k then v else Ci A C k i)=Ci A C (k+1) i:=by grind [Ci]
variable (A C i) in
def rX:Ci A C 0 i=A i:=by simp[Ci]
variable (A C k) in
theorem Hf:Ci A C k k=A k:=by simp[Ci]
variable (A C i) in
def Cj (h:i<256):Ci A C 256 i=C i:=by simp[Ci,h]
def Mk.set2 (h:Mk w b s r)  (hg:g≠b) (v:Value):Mk (w.setCell ⟨g,o,none⟩ v) b s r:=h.far (Ne.symm hg) v
def uz (hy:(x.alloc (.cells (bA λ_=>false) 184)).setCells x.heap.size 0 (bL S)=y) (h:Mk x b s r) (hr:Rd b w x):Mk y b s r/\Rd b w y/\Bs y x.heap.size S/\(∀ g,g<x.heap.size->y.heap[g]?=x.heap[g]?)/\y.heap.size=x.heap.size+1:=by
 subst hy;have d:=h.lt;refine⟨(h.alloc _).keep (cg _ _ _ _ _ ω) (by rw[size_setCells];exact zq),kX (hr.alloc _) _ hr.size _ _,(iW x _ _).all S,λg hg=>?_,by rw[size_setCells];simp⟩;rw[cg _ _ _ _ _ ω];exact Ze _ _ _ hg
def Ec (h:C=A0 A S v z) (j:Nat) :
  (A j=true/\Hid (C j=true))\/(A j=false/\S j=true/\Hid (C j=true))\/(A j=false/\S j=false/\decide (0<=v)=false/\Hid (C j=false))\/(A j=false/\S j=false/\0<=v/\decide (v<=(j:Int))=false/\Hid (C j=false))\/(A j=false/\S j=false/\0<=v/\v<=(j:Int)/\decide ((j:Int)<=z)=false/\Hid (C j=false))\/(A j=false/\S j=false/\0<=v/\v<=(j:Int)/\(j:Int)<=z/\Hid (C j=true)):=by
 subst h;unfold Hid A0
 cases A j<;>cases S j<;>simp
 omega
def kY {l v:Nat} (h:aE l r=.ok v r'):v<256:=by
 match r,h with
 |c::t,h=>
  simp only[aE] at h
  split at h
  .obtain⟨x,y,a,d,_,hx,hy,rfl⟩:=o_ h;have:=(lJ hx).2;have:=(lJ hy).2;omega
  .split at h
   .rename_i z hz
    split at h
    .simp at h
    .injection h with e1 _;subst e1;unfold el at hz;have:=c.toNat_lt
     split at hz
     .simp_all
     .grind
   .simp at h
def jP {l v:Nat} (h:aw l r=.ok v r'):v<256:=by
 unfold aw at h
 split at h
 .exact kY h
 .match r,h with
  |c::t,h=>
   have:=c.toNat_lt;simp only[aP] at h
   split at h
   .simp at h
   .grind
def Ed {r r1 t1:List UInt8}{c1:UInt8} (hI:eU r=.ok T r1) (hr1:r1=c1::t1) (hnd:(∃ c,r=92::c::r1/\bK c=some T)->c1≠45) :
  ∃(v z:Int) (S1:Nat->Bool),(-1<=v/\v<=255/\-1<=z/\z<=255)/\(∀ i,A0 A S1 v z i=orS A T i)/\((z=v/\c1≠45/\nm b s r r1 v S1)\/∃ t2,nm b s r (45::t2) v S1/\nm b s t2 r1 z aT):=by
 rcases pa hI with⟨c,hr,hS⟩|⟨low,h1,f,rfl⟩|⟨low,d,t2,h1,h2,rfl⟩
 .exact⟨-1,-1,T,ω,λi=>by simp[A0,orS],.inl ⟨rfl,hnd ⟨c,hr,hS⟩,by rw[hr];exact He b s c r1 T hS⟩⟩
 .have:=jP h1;exact⟨low,low,aT,ω,λi=>by simp[A0,orS,ax],.inl ⟨rfl,λe=>f t1 (by rw[hr1,e]),ox b s 0 low r r1 h1⟩⟩
 .have:=jP h1;have:=jP h2;exact⟨low,d,aT,ω,λi=>by simp[A0,orS,ax],.inr ⟨t2,ox b s 0 low r _ h1,ox b s low d t2 r1 h2⟩⟩
def rY (h:bd n A r=.ok S r'):∃ T r1 c1 t1,eU r=.ok T r1/\r1=c1::t1/\r1.length<r.length/\((∃ n,bd n (orS A T) r1=.ok S r')\/(r1=93::r'/\orS A T=S))/\((∃ c,r=92::c::r1/\bK c=some T)->c1≠45):=by
 cases n with
 |zero=>simp[bd] at h
 |succ n=>
  simp only[bd] at h
  split at h
  .simp at h
  .rename_i T r1 h1;have hl:=k_ h1
   split at h
   .grind
   .have:∃ c1 t1,r1=c1::t1/\c1≠45:=by
     cases n with
     |zero=>simp[bd] at h
     |succ n=>
      have h':=h;simp only[bd] at h'
      split at h'
      .simp at h'
      .grind [jO]
    obtain⟨c1,t1,e,n2⟩:=this;exact⟨T,r1,c1,t1,h1,e,hl,.inl ⟨n,h⟩,λ_=>n2⟩
variable (w b s c) in
def Ck (t r':List UInt8) (n:Nat) (S:Nat->Bool) (x:Bool) (N:Bool->Bool) (hN:∀ y,N y=(x ^^ y)) (h:Mk w b s (c::t)) (hc:((c.toNat:Int)==94)=x) (hP:bd n (λ_=>false) (cond x t (c::t))=.ok S r') :
  Calls prog 212 #[.pointer (some ⟨b,0,none⟩)] w λe w'=>e=.returned (.pointer (some ⟨w.heap.size,0,none⟩))/\nG w w' b s r'/\Tr w' w.heap.size 0 (λn=>N (S n)) (.slice none 0 0) 0 0 0:=by
 have f:=h.lt;have hh:np b s (c::t) c:=λw h=>dT w b s _ h
 have H:Hid (∀ y,N y=(x ^^ y)):=hN;clear hN
 cases x
 all_goals
  go_enter func212,ntmps212
  go_wp2_with (first|(go_at_call 86;refine(hh _ g1).mono ?_;rintro e w2 ⟨rfl,g2,l2⟩;have t2:=t1.of_heap (l2.block _ t1.lt);have r2:=r1.trans (Rd.of_below l2);have z2:=l2.size;clear l2 t1 r1 g1;obtain⟨k0,a4,a1,a0,a2,Y,a9,a6,b0⟩:=g2.byte)|(refine wpList_buildTo rfl 187 #[] rfl _ rfl (tA 0 (λ_=>false) (.slice none 0 0) 0 0 0) (rV _) ?_)|(refine Great.wpList_boxTo rfl 187 (.tmp 11) rfl _ rfl w.heap.size rfl (tA 0 (λ_=>false) (.slice none 0 0) 0 0 0) rfl ?_;generalize l:World.alloc w _=w1;have t1:Tr w1 w.heap.size 0 (λ_=>false) (.slice none 0 0) 0 0 0:=(by rw[<-l];exact Fa _ _ _ _ _ _ _);have r1:Rd b w w1:=(by rw[<-l];exact(Rd.refl _ _).alloc _);have g1:Mk w1 b s (c::t):=(by rw[<-l];exact h.alloc _);have z1:w1.heap.size=w.heap.size+1:=(by rw[<-l];simp);clear l))
  go_loopw [] (λwr=>∃(A:Nat->Bool) (r:List UInt8),Mk wr b s r/\Rd b w wr/\Tr wr w.heap.size 0 A (.slice none 0 0) 0 0 0/\((∃ n,bd n A r=.ok S r')\/(r=93::r'/\A=S))) (λwr=>leftOf b s wr)
  case atStart=>first|exact⟨λ_=>false,c::t,g2,r2,t2,.inl ⟨n,hP⟩⟩|exact⟨λ_=>false,t,g2.next Y,r2.setCell _ _,t2.far ω _,.inl ⟨n,hP⟩⟩
  case round=>
   obtain⟨A,r,hm,U,hT,d⟩:=hrel
   by_cases h93:∃ tt,r=93::tt
   .obtain⟨tt,rfl⟩:=h93;have e:tt=r'/\A=S:=by
     rcases d with⟨m,hm⟩|⟨e,e2⟩
     .cases m with
      |zero=>simp[bd] at hm
      |succ m=>
       simp only[bd] at hm
       split at hm
       .simp at hm
       .rename_i h1;obtain⟨c',t',e,n1,_⟩:=jO h1;injection e with e _;exact absurd e.symm n1
     .injection e with _ e;exact⟨e,e2⟩
    obtain⟨rfl,rfl⟩:=e;clear d hP;obtain⟨k,W,e1,c0,c1,hk,sz,lt,fz⟩:=hm.byte;go_wp2
    go_quiet (fail)
    go_wp2
    have g3:=(hm.drewN nq).next hk;have r3:Rd b w ((wr.drewN nq).setCell ⟨b,1,none⟩ (.int .i64 ((k:Int)+1))):=(U.drewN _).setCell _ _;have t3:Tr ((wr.drewN nq).setCell ⟨b,1,none⟩ (.int .i64 ((k:Int)+1))) w.heap.size 0 A (.slice none 0 0) 0 0 0:=(hT.drewN nq).far ω _;obtain⟨C,hC⟩:∃ C:Nat->Bool,C=λn=>N (A n):=⟨_,rfl⟩
    have F:Hid (C=λn=>N (A n)):=hC;clear hC
    go_loopw [10] (λi wq=>∃ j:Nat,j<=256/\i=.int .i64 j/\Mk wq b s tt/\Rd b w wq/\Tr wq w.heap.size 0 (Ci A C j) (.slice none 0 0) 0 0 0) (λi _=>256-(intOf i).toNat)
    case atStart=>exact⟨0,ω,rfl,g3,r3,t3.congr (λi _=>(rX A C i).symm)⟩
    case round=>
     obtain⟨j,hj,rfl,g5,r5,t5⟩:=hrel
     by_cases f:j<256
     .have cT:=t5.cB j f;rw[Hf] at cT;have fT:=t5.fz (1+j)
      cases q1:A j
      all_goals
       rw[q1] at cT;go_wp2
       first
       |(go_ret;exact⟨rfl,⟨g5,r5⟩,t5.congr (λi _=>by simp[Ci,F.out,H.out])⟩)
       |(go_region
         all_goals
          go_wp2
          go_roundw
          case rel=>exact⟨j+1,ω,π,(g5.drew.set2 ω _),(r5.drew.setNew zq _),((t5.of_heap (w':=wr.drew) rfl).bit j f _).congr (λi _=>ns A C j _ (by simp[F.out,H.out,q1]) i)⟩
          case measure=>simp[intOf]<;>omega)
     .have e:j=256:=ω;subst e;go_wp2
      go_ret
      exact⟨rfl,⟨g5,r5⟩,t5.congr (λi hi=>by simp[Ci,F.out,H.out,hi])⟩
   .have D:∃ n,bd n A r=.ok S r':=by
     rcases d with q|⟨q,_⟩
     .exact q
     .exact absurd ⟨_,q⟩ h93
    obtain⟨m,D⟩:=D;clear d hP;obtain⟨T,r1,c1,t1,hI,K,L,O,V⟩:=rY D;have HN:Hid (((∃ n,bd n (orS A T) r1=.ok S r')\/(r1=93::r'/\orS A T=S))/\r1.length<r.length):=⟨O,L⟩
    obtain⟨c',t',hr,J,u⟩:=jO hI;subst hr;have HM:Hid (Mk wr b s (c'::t')):=hm;have b1:((c'.toNat:Int) != 93)=true:=by have:=ii J;simp at this ⊢;exact this
    obtain⟨k,W,e1,c0,b3,hk,sz,lt,fz⟩:=hm.byte;clear hm L O D J u h93;obtain⟨v,z,S1,⟨v0,v1,z0,z1⟩,E,G⟩:=Ed (b:=b) (s:=s) (A:=A) hI K V;obtain⟨C,hC⟩:∃ C,C=A0 A S1 v z:=⟨_,rfl⟩
    have HY:Hid _:=Ec hC;have HA:Hid (∀ i,C i=orS A T i):=by rw[hC];exact E
    clear hI V E hC;subst K;rcases G with⟨rfl,u,hI⟩|⟨t2,hI,Q⟩
    all_goals
     try (have b2:((c1.toNat:Int)==45)=false:=ii u)
     try clear u
     go_wp2
     go_quiet (fail)
     go_wp2_with (first|(refine wpList_store_mid rfl 184 (.tmp 7) (.tmp 39) rfl w3.heap.size 0 (bA S1) rfl rfl (by rw[cC];exact(iW _ _ _).there) (by rw[cC];exact fU) (jt _) ?_;generalize I:setCells _ _ _ _=w4;obtain⟨g4,r4,b4,h4,z4⟩:=uz I g3 (U.drewN _ |>.trans l3);have t4:=(hT.of_heap (l3.block _ hT.lt ω)).of_heap (h4 _ (hT.of_heap (l3.block _ hT.lt ω)).lt);clear I h4)|(refine bT rfl rfl _ rfl w3.heap.size rfl ?_)|(go_at_call 225;refine(hI _ (HM.out.drewN _)).mono ?_;rintro e w3 ⟨rfl,g3,l3⟩))
     obtain⟨k2,a5,f1,d0,d1,X,a7,b7,b8⟩:=g4.byte
     go_quiet (fail)
     first
     |(have Z:=(g4.drewN nq).next X
       have:=Q;have a3:Rd b w ((w4.drewN nq).setCell ⟨b,1,none⟩ (.int .i64 ((k2:Int)+1))):=(r4.drewN _).setCell _ _;have R:Tr ((w4.drewN nq).setCell ⟨b,1,none⟩ (.int .i64 ((k2:Int)+1))) w.heap.size 0 A (.slice none 0 0) 0 0 0:=(t4.drewN nq).far ω _;have M:Bs ((w4.drewN nq).setCell ⟨b,1,none⟩ (.int .i64 ((k2:Int)+1))) w3.heap.size S1:=(b4.drewN nq).of_heap (Zf _ _ _ _ (by have:=g3.lt;simp;omega))
       go_wp2_with (go_at_call 225;refine(Q _ Z).mono ?_;rintro e w6 ⟨rfl,g6,l6⟩;have r6:=a3.trans l6;have t6:=R.of_heap (l6.block _ R.lt ω);have b6:=M.of_heap (l6.block _ M.lt (η g3.lt))))
     |(have g6:=g4.drewN nq
       have r6:=r4.drewN nq;have t6:=t4.drewN nq;have b6:=b4.drewN nq
       go_wp2)
     have a8:w.heap.size<w3.heap.size:=(hT.of_heap (l3.block _ hT.lt ω)).lt
     go_loopw [9] (λi wq=>∃ j:Nat,j<=256/\i=.int .i64 j/\Mk wq b s (c1::t1)/\Rd b w wq/\Tr wq w.heap.size 0 (Ci A C j) (.slice none 0 0) 0 0 0/\Bs wq w3.heap.size S1) (λi _=>256-(intOf i).toNat)
     case atStart=>exact⟨0,ω,rfl,g6,r6,t6.congr (λi _=>(rX A C i).symm),b6⟩
     case round=>
      obtain⟨j,hj,rfl,g5,r5,t5,b5⟩:=hrel
      by_cases f:j<256
      .have cT:=t5.cB j f;rw[Hf] at cT;have cS:=b5.cB j f;have fT:=t5.fz (1+j);rcases HY.out j with⟨q1,HV⟩|⟨q1,q2,HV⟩|⟨q1,q2,q3,HV⟩|⟨q1,q2,q3,q4,HV⟩|⟨q1,q2,q3,q4,q5,HV⟩|⟨q1,q2,q3,q4,q5,HV⟩
       all_goals
        rw[q1] at cT
        try rw[q2] at cS
        go_wp2
        go_region
        all_goals
         go_wp2
         go_roundw
         case rel=>exact⟨j+1,ω,π,(g5.drew.set2 ω _),(r5.drew.setNew zq _),((t5.of_heap (w':=wr.drew) rfl).bit j f _).congr (λi _=>ns A C j _ HV.out i),(b5.of_heap (w':=wr.drew) rfl).of_heap (Zf _ _ _ _ σ)⟩
         case measure=>simp[intOf]<;>omega
      .have e:j=256:=ω;subst e;go_wp2
       go_roundw
       case rel=>exact⟨orS A T,c1::t1,g5,r5,t5.congr (λi hi=>by rw[Cj A C i hi];exact HA.out i),HN.out.1⟩
       case measure=>rw[g5.left,HM.out.left];exact HN.out.2
variable (w b s r r' S) in
def Hg (h:Mk w b s r) (hP:eH r=.ok S r') :
  Calls prog 212 #[.pointer (some ⟨b,0,none⟩)] w λe w'=>e=.returned (.pointer (some ⟨w.heap.size,0,none⟩))/\nG w w' b s r'/\Tr w' w.heap.size 0 S (.slice none 0 0) 0 0 0:=by
 unfold eH at hP
 split at hP
 .split at hP
  .rename_i h1;injection hP with e1 e2;subst e1;subst e2;exact Ck w b s _ _ _ _ _ true _ (λ_=>(Bool.true_xor _).symm) h rfl h1
  .simp at hP
 .rename_i hn;have d:=rY hP;obtain⟨T,r1,c1,t1,hI,_⟩:=d;obtain⟨c,t,rfl,_,_⟩:=jO hI;exact Ck w b s c t r' _ S false id (λ_=>(Bool.false_xor _).symm) h (ii (k:=94) λe:c=94=>hn t (by rw[e])) hP
end Go.Proofs.YtbjabpodkaokjaaGreatDoor.Sx

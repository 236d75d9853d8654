import Derived.Test.YtbjabpodkaokjaaGreatDoorCC06
import Derived.Shelf.Spec.TrailingZeros
set_option linter.all false
set_option maxHeartbeats 4000000
set_option maxRecDepth 100000
open List Nat Go.World Go.Proofs.Tryz
namespace Go.Proofs.YtbjabpodkaokjaaGreatDoor
open Go.RowKit
open Go.ChangeMaps (setBlock)
variable {w:World}{x i b:Nat}
def oN {x0 x1 x2 x3:Value}{T:TypeId} (h:w.heap[b]?=some (.cells #[x0,x1,x2,x3] T)):w.cell? ⟨b,0,none⟩=some x0/\w.cell? ⟨b,1,none⟩=some x1/\w.cell? ⟨b,2,none⟩=some x2/\w.cell? ⟨b,3,none⟩=some x3:=by
 refine⟨?_,?_,?_,?_⟩<;>simp[cell?,h]
abbrev lW (x0 x1 x2 x3:Nat):Value:=.agg #[.int .u64 (x0:Int),.int .u64 (x1:Int),.int .u64 (x2:Int),.int .u64 (x3:Int)]
def Tryz.infoSe:(prog.info? 150).map (λi=>(i.zero,i.size,i.bytes))=some (some (.agg #[.int .u64 0,.int .u64 0,.int .u64 0,.int .u64 0]),4,32):=κ
def Dg (w:World) (p off:Nat) (v:Value) (n:Nat) (xs:List Value) (x0 x1 x2 x3:Nat) (hc:w.cell? ⟨p,off,none⟩=some v) (hf:w.frozen? ⟨p,off,none⟩=false) (hne:v.ownBlock≠some p)
  (ho:w.ownsRow 0 150 4 v n xs) (hn:n<=1048576) :
  Calls prog 179 #[.pointer (some ⟨p,off,none⟩),lW x0 x1 x2 x3] w λe w'=>e=.returned (.tuple #[])/\∃ g cap,w'.cell? ⟨p,off,none⟩=some (.slice (some ⟨g,0,none⟩) (n+1) cap) /\
   w'.ownsRow 0 150 4 (.slice (some ⟨g,0,none⟩) (n+1) cap) (n+1) (xs++(lW x0 x1 x2 x3).cells.toList)/\g≠p/\(v.ownBlock=some g\/w.heap.size<=g)/\Ap p off v.ownBlock w w':=by
 have hp:=aF hc;obtain⟨i0,s,k,m,o⟩:=info_parts Tryz.infoSe;obtain⟨w1,c⟩:=zx (w.alloc (.cells #[.int .u64 (x0:Int),.int .u64 (x1:Int),.int .u64 (x2:Int),.int .u64 (x3:Int)] 150));have a:Below w.heap.size w w1:=by rw[c];exact ZA
 have j:=cell_below a hc;have HO:Hid (w1.ownsRow 0 150 4 v n xs):=by rw[c];exact ho.alloc _
 have hx:w1.heap[w.heap.size]?=some (.cells #[.int .u64 (x0:Int),.int .u64 (x1:Int),.int .u64 (x2:Int),.int .u64 (x3:Int)] 150):=by rw[c];exact Za w _
 have HW:=zh c;obtain⟨y0,y1,y2,y3⟩:=oN hx;clear c hx;have t:(w1.alloc (.cells #[.int .u64 (x0:Int),.int .u64 (x1:Int),.int .u64 (x2:Int),.int .u64 (x3:Int)] 150)).cell? ⟨p,off,none⟩=some v:=cell_below ZA j;have y:=new_ne w1 ⟨p,off,none⟩ j;have d:∀ q,v.ownBlock=some q->q<w.heap.size:=λq e=>de ho e
 have l:Hid (∀ {w4:World}{g:Nat} (x:Value),((v.ownBlock=some g/\(w1.alloc (.cells #[.int .u64 (x0:Int),.int .u64 (x1:Int),.int .u64 (x2:Int),.int .u64 (x3:Int)] 150)).drew.grownBy w4 (some g))\/(g=(w1.alloc (.cells #[.int .u64 (x0:Int),.int .u64 (x1:Int),.int .u64 (x2:Int),.int .u64 (x3:Int)] 150)).heap.size/\(w1.alloc (.cells #[.int .u64 (x0:Int),.int .u64 (x1:Int),.int .u64 (x2:Int),.int .u64 (x3:Int)] 150)).drew.grownBy w4 none))->Ap p off v.ownBlock w (w4.setCell ⟨p,off,none⟩ x)/\g≠p/\(v.ownBlock=some g\/w.heap.size<=g)/\w4.frozen? ⟨p,off,none⟩=false/\w4.cell? ⟨p,off,none⟩=some v):=λ{w4 g} x hg=>by
  obtain⟨a1,a2,a3,a4⟩:=Bp (x:=x) (a.trans (((Below.refl _ w1).alloc zq _).drew.mono a.size)) hp hne d hg hf;refine⟨a1,a2,a3,a4,?_⟩;have:w4.heap[p]?=w.heap[p]?:=by
   rcases hg with⟨h1,h2⟩|⟨h1,h2⟩
   .exact(h2.block p (by have:=a.size;simp;omega) (by rw[<-h1];exact λe=>hne e.symm)).trans ((a.trans (((Below.refl _ w1).alloc zq _).drew.mono a.size)).block p hp)
   .exact(h2.block p (by have:=a.size;simp;omega) χ).trans ((a.trans (((Below.refl _ w1).alloc zq _).drew.mono a.size)).block p hp)
  rw[<-hc];simp[cell?,this]
 clear a hc hf ho d hne
 go_enter func179,ntmps179
 go_wp2
 rw[<-HW.out]
 go_region_law (refine cy _ (by rfl) (.tmp 8) (.tmp 10) 144 (by rfl) 0 150 i0 _ 4 32 underlying144 s k m o (by rfl) Zr v n xs (by rfl) (show ownsRow _ _ _ _ _ _ _ from Zm HO _) ⟨w1.heap.size,0,none⟩ 1 1 [.int .u64 (x0:Int),.int .u64 (x1:Int),.int .u64 (x2:Int),.int .u64 (x3:Int)] (by rfl) (by rfl) (news_of_block (w:=w1.alloc (.cells #[.int .u64 (x0:Int),.int .u64 (x1:Int),.int .u64 (x2:Int),.int .u64 (x3:Int)] 150)) (Za w1 _)) Zt ω Zs ω (Zk _) _ (by rfl) ?_;intro g4 k4 w4 f h u;obtain⟨a1,a2,a3,f0,e0⟩:=l (.slice (some ⟨g4,0,none⟩) (n+1) k4) h;have HA:Hid (g4≠p/\(v.ownBlock=some g4\/w.heap.size<=g4)/\Ap p off v.ownBlock w (w4.setCell ⟨p,off,none⟩ (.slice (some ⟨g4,0,none⟩) (n+1) k4))):=⟨a2,a3,a1⟩;have r:=zh f;clear f h a1 a2 a3)
 all_goals go_wp2
 all_goals refine bodyPost_end (results_none rfl _ _ _) rfl ?_
 all_goals exact⟨rfl,g4,k4,by simp[go_sem,e0],ak r (λb hb=>ah _ _ _ _ (by simp[Value.ownBlock] at hb;rw[<-hb];exact HA.1)),HA⟩
def Dh (w:World) :
  Calls prog 126 #[] w λe w'=>e=.returned (.pointer (some ⟨w.heap.size+1,0,none⟩))/\av 150 4 w' (w.heap.size+1) w.heap.size (.slice none 0 0) [] 0/\Below w.heap.size w w':=by
 have a:(Instr.makeMap 287 none).run prog w=.ok (.map (some w.heap.size)) (w.alloc (.map #[] 0)):=run_makeMap _ _
 go_enter func126,ntmps126
 go_wp2
 go_ret
 exact⟨rfl,av.made _ _ _ w,ZA.alloc χ _⟩
def Fl (w:World) (p mb:Nat) (v:Value) (vs:List Value) (tk:Nat) (x0 x1 x2 x3:Nat) (i:Nat) (h:av 150 4 w p mb v vs tk) (hi:vs[i]?=some (lW x0 x1 x2 x3))
  (hr:∀ w1:World,w1.heap[mb]?=w.heap[mb]?->(Instr.lookup 287 (.map (some mb)) (lW x0 x1 x2 x3) true).run prog w1=.ok (.tuple #[.int .i64 (i:Int),.bool true]) w1) :
  Calls prog 128 #[.pointer (some ⟨p,0,none⟩),lW x0 x1 x2 x3] w λe w'=>e=.returned (.int .i64 (i:Int))/\Below w.heap.size w w':=by
 obtain⟨w1,c⟩:=zx (w.alloc (.cells #[.int .u64 (x0:Int),.int .u64 (x1:Int),.int .u64 (x2:Int),.int .u64 (x3:Int)] 150));have a:Below w.heap.size w w1:=by rw[c];exact ZA
 have d:=cell_below a h.c0;have hx:w1.heap[w.heap.size]?=some (.cells #[.int .u64 (x0:Int),.int .u64 (x1:Int),.int .u64 (x2:Int),.int .u64 (x3:Int)] 150):=by rw[c];exact Za w _
 have f:=hr w1.drew (by show w1.heap[mb]?=_;exact a.block mb (h.lt (.inr (.inl rfl))));obtain⟨y0,y1,y2,y3⟩:=oN hx;have HW:=zh c;have HB:=zh a;clear c hx a h hi hr
 go_enter func128,ntmps128
 go_wp2
 rw[<-HW.out]
 go_region
 go_wp2
 go_ret
 exact⟨rfl,HB.drew⟩
def Fm (w:World) (p mb:Nat) (v:Value) (vs:List Value) (tk:Nat) (x0 x1 x2 x3:Nat) (h:av 150 4 w p mb v vs tk) (hn:vs.length<=1048576)
  (hr:∀ w1:World,w1.heap[mb]?=w.heap[mb]?->(Instr.lookup 287 (.map (some mb)) (lW x0 x1 x2 x3) true).run prog w1=.ok (.tuple #[.int .i64 0,.bool false]) w1)
  (hu:∀ w1:World,w1.heap[mb]?=w.heap[mb]?->(Instr.mapUpdate 287 (.map (some mb)) (lW x0 x1 x2 x3) (.int .i64 (vs.length:Int))).run prog w1=.ok () (setBlock w1 mb (.map (bW (vs++[lW x0 x1 x2 x3])) (vs++[lW x0 x1 x2 x3]).length))) :
  Calls prog 128 #[.pointer (some ⟨p,0,none⟩),lW x0 x1 x2 x3] w λe w'=>e=.returned (.int .i64 (vs.length:Int)) /\
   ∃ g c,av 150 4 w' p mb (.slice (some ⟨g,0,none⟩) (vs.length+1) c) (vs++[lW x0 x1 x2 x3]) tk/\(v.ownBlock=some g\/w.heap.size<=g)/\cd (cZ p mb v) w w':=by
 obtain⟨w1,m⟩:=zx (w.alloc (.cells #[.int .u64 (x0:Int),.int .u64 (x1:Int),.int .u64 (x2:Int),.int .u64 (x3:Int)] 150));have f:Below w.heap.size w w1:=by rw[m];exact ZA
 have C:=cell_below f h.c0;have hx:w1.heap[w.heap.size]?=some (.cells #[.int .u64 (x0:Int),.int .u64 (x1:Int),.int .u64 (x2:Int),.int .u64 (x3:Int)] 150):=by rw[m];exact Za w _
 have l:=f.block mb (h.lt (.inr (.inl rfl)));have B:=hr w1.drew l;have A:(Builtin.len_ #[287] 3 #[.map (some mb)]).run prog w1.drew=.ok (.int .i64 (vs.length:Int)) w1.drew:=lj _ underlying287 (show w1.heap[mb]?=_ by rw[l];exact h.mp);obtain⟨w2,d⟩:=zx (setBlock w1.drew.drew mb (.map (bW (vs++[lW x0 x1 x2 x3])) (vs++[lW x0 x1 x2 x3]).length));have q:=hu w1.drew.drew l;rw[<-d] at q;have t:=h.lt (.inr (.inl rfl));have o:∀ k,k≠mb->w2.heap[k]?=w1.heap[k]?:=λk hk=>by rw[d];simp[setBlock,Ne.symm hk];rfl
 have j:w2.heap[w.heap.size]?=some (.cells #[.int .u64 (x0:Int),.int .u64 (x1:Int),.int .u64 (x2:Int),.int .u64 (x3:Int)] 150):=by rw[o _ ω];exact hx
 obtain⟨y0,y1,y2,y3⟩:=oN hx;obtain⟨z0,z1,z2,z3⟩:=oN j;have h1:av 150 4 w1.drew.drew p mb v vs tk:=h.keep (λk hk=>f.block k (h.lt hk));obtain⟨q1,q2,q3,q4,q5,q6,q7,q8⟩:=h1.put (lW x0 x1 x2 x3);rw[<-d] at q1 q2 q3 q4 q5 q6;have n:=λ(w9:World) (e9:∀ k,w9.heap[k]?=w2.heap[k]?)=>Dg w9 p 1 v vs.length (vs.flatMap λx=>x.cells.toList) x0 x1 x2 x3 (by rw[<-q1];simp[cell?,e9]) (by rw[<-q3 1];simp[frozen?,e9]) h1.ne (ak q4 (λk _=>e9 k)) hn
 have s:Hid (∀(w9:World) (e9:∀ k,w9.heap[k]?=w2.heap[k]?),Calls prog 179 #[.pointer (some ⟨p,1,none⟩),lW x0 x1 x2 x3] w9 λe w'=>e=.returned (.tuple #[])/\∃ g c,w'.cell? ⟨p,1,none⟩=some (.slice (some ⟨g,0,none⟩) (vs.length+1) c) /\
   w'.ownsRow 0 150 4 (.slice (some ⟨g,0,none⟩) (vs.length+1) c) (vs.length+1) ((vs.flatMap λx=>x.cells.toList)++(lW x0 x1 x2 x3).cells.toList)/\g≠p/\(v.ownBlock=some g\/w9.heap.size<=g)/\Ap p 1 v.ownBlock w9 w'):=n
 have y:Hid (∀ w3:World,Ap p 1 v.ownBlock w2.drew w3->w3.heap[w.heap.size]?=some (.cells #[.int .u64 (x0:Int),.int .u64 (x1:Int),.int .u64 (x2:Int),.int .u64 (x3:Int)] 150)):=λw3 a=>by
  rw[a.block w.heap.size ((ZC j)) (η (h.lt (.inl rfl))) (λe=>by have:=de h.own e.symm;omega)];exact j
 obtain⟨nv,r⟩:=zx vs.length;have HH:=zh h;have u:=zh r;rw[<-r] at A q ⊢;have HW:=zh m;have HB:=zh f.drew.drew;have z:=zh d;clear m hx j f h hr hu d l o h1 q1 q2 q3 q4 q5 q6 q7 q8 n r hn t
 go_enter func128,ntmps128
 go_wp2
 rw[<-HW.out]
 go_region
 go_wp2
 go_region_law (refine step_mapUpdate _ (by rfl) (.tmp 26) (.tmp 27) (.tmp 28) 287 (by rfl) _ _ _ (by rfl) (by rfl) (by rfl) _ q ?_)
 all_goals go_wp2
 all_goals go_region_held3 (λw'=>w'.cell? ⟨w.heap.size,0,none⟩=some (.int .u64 (x0:Int))/\w'.cell? ⟨w.heap.size,1,none⟩=some (.int .u64 (x1:Int))/\w'.cell? ⟨w.heap.size,2,none⟩=some (.int .u64 (x2:Int))/\w'.cell? ⟨w.heap.size,3,none⟩=some (.int .u64 (x3:Int))) (go_keep) ((go_at_call 179;refine(s w2.drew (λk=>rfl)).mono ?_;rintro e w3 ⟨rfl,g,c,a1,a2,a3,a4,a5⟩;obtain⟨r0,r1,r2,r3⟩:=oN (y w3 a5);have HN:Hid (∃ g c,av 150 4 w3 p mb (.slice (some ⟨g,0,none⟩) (nv+1) c) (vs++[lW x0 x1 x2 x3]) tk/\(v.ownBlock=some g\/w.heap.size<=g)/\cd (cZ p mb v) w w3):=(by rw[u.out];exact⟨g,c,HH.grow HB z a1 a2 a3 a4 ⟨a5.os,a5.tape,a5.output,a5.size,a5.block,a5.cell,a5.fz⟩⟩)))
 all_goals go_wp2
 all_goals go_ret
 all_goals exact⟨rfl,HN⟩
structure W4 where
 x0:Nat
 x1:Nat
 x2:Nat
 x3:Nat
 deriving DecidableEq
structure W4.ok (s:W4):Prop where
 l0:s.x0<18446744073709551616
 l1:s.x1<18446744073709551616
 l2:s.x2<18446744073709551616
 l3:s.x3<18446744073709551616
def W4.v (s:W4):Value:=lW s.x0 s.x1 s.x2 s.x3
theorem W4.v_inj {s t:W4} (h:s.v=t.v):s=t:=by
 obtain⟨a0,a1,a2,a3⟩:=s;obtain⟨b0,b1,b2,b3⟩:=t;simp[W4.v] at h;simp only[W4.mk.injEq];omega
def Kl {l:List W4}{s:W4} (h:(l.map W4.v)[i]?=some s.v):l[i]?=some s:=by grind [W4.v_inj]
def Km {l:List W4}{s:W4}:s.v∈l.map W4.v↔s∈l:=
 ⟨λh=>by obtain⟨y,hy,e⟩:=mem_map.1 h;rw[<-W4.v_inj e];exact hy,λh=>mem_map_of_mem h⟩
def Fn (w:World) (p mb:Nat) (v:Value) (l:List W4) (tk:Nat) (s:W4) (h:av 150 4 w p mb v (l.map W4.v) tk) (hl:∀ y∈l,y.ok) (hs:s.ok) (hn:l.length<=1048576) (hd:l.Nodup) :
  Calls prog 128 #[.pointer (some ⟨p,0,none⟩),s.v] w λe w'=>e=.returned (.int .i64 (((aq l s).idxOf s:Nat):Int)) /\
   ∃ v',av 150 4 w' p mb v' ((aq l s).map W4.v) tk/\(∀ g,v'.ownBlock=some g->v.ownBlock=some g\/w.heap.size<=g)/\cd (cZ p mb v) w w':=by
 have a:∀ y∈l.map W4.v,∃ q,keyOf prog 150 y=some q:=λy hy=>by
  obtain⟨z,hz,rfl⟩:=mem_map.1 hy;have:=hl z hz;exact Bq _ _ _ _ this.l0 this.l1 this.l2 this.l3
 have hk:=Bq _ _ _ _ hs.l0 hs.l1 hs.l2 hs.l3
 by_cases hm:s∈l
 .obtain⟨i,hi⟩:=mem_iff_getElem?.1 hm;have d:(l.map W4.v)[i]?=some s.v:=by rw[getElem?_map,hi];rfl
  refine(Fl w p mb v (l.map W4.v) tk s.x0 s.x1 s.x2 s.x3 i h d (λw1 e1=>?_)).mono ?_
  .rcases gE (x:=s.v) nN underlying287 (JC w1) (e1.trans h.mp) a hk with⟨h1,_⟩|⟨j,h1,h2⟩
   .grind
   .have e3:=bE hd (Kl h1);rw[bE hd hi] at e3;subst e3;exact h2
  .rintro e w' ⟨rfl,hb⟩;have e3:=bE hd hi;simp only[aq,Zi hm,e3,true_and];exact⟨v,h.keep (λk hk=>hb.block k (h.lt hk)),λg hg=>.inl hg,cd.of_below _ hb⟩
 .have c:s.v ∉ l.map W4.v:=λq=>hm (Km.1 q)
  refine(Fm w p mb v (l.map W4.v) tk s.x0 s.x1 s.x2 s.x3 h (by simpa using hn) (λw1 e1=>?_) (λw1 e1=>?_)).mono ?_
  .rcases gE (x:=s.v) nN underlying287 (JC w1) (e1.trans h.mp) a hk with⟨_,h1⟩|⟨j,h1,h2⟩
   .exact h1
   .grind
  .exact py nN underlying287 (e1.trans h.mp) a hk c
  .rintro e w' ⟨rfl,g,f,h1,h2,h3⟩;have e3:(l++[s]).idxOf s=l.length:=bE (by have:=gF hd s;rwa [aq,Zh hm] at this) χ;simp only[aq,Zh hm,e3,length_map,true_and];refine⟨.slice (some ⟨g,0,none⟩) ((l.map W4.v).length+1) f,?_,?_,h3⟩
   .rw[map_append];exact h1
   .intro q hq;simp[Value.ownBlock] at hq;subst hq;exact h2
structure gG (w:World) (b off:Nat) (x:W4):Prop where
 c0:w.cell? ⟨b,off,none⟩=some (.int .u64 (x.x0:Int))
 c1:w.cell? ⟨b,off+1,none⟩=some (.int .u64 (x.x1:Int))
 c2:w.cell? ⟨b,off+2,none⟩=some (.int .u64 (x.x2:Int))
 c3:w.cell? ⟨b,off+3,none⟩=some (.int .u64 (x.x3:Int))
 fz:∀ o,w.frozen? ⟨b,o,none⟩=false
def W4.or (x y:W4):W4:=⟨x.x0 ||| y.x0,x.x1 ||| y.x1,x.x2 ||| y.x2,x.x3 ||| y.x3⟩
def W4.and (x y:W4):W4:=⟨x.x0 &&& y.x0,x.x1 &&& y.x1,x.x2 &&& y.x2,x.x3 &&& y.x3⟩
def W4.none:W4:=⟨0,0,0,0⟩
def W4.or_ok {x y:W4} (h:x.ok) (g:y.ok):(x.or y).ok:=⟨or_lt_two_pow (n:=64) h.l0 g.l0,or_lt_two_pow (n:=64) h.l1 g.l1,or_lt_two_pow (n:=64) h.l2 g.l2,or_lt_two_pow (n:=64) h.l3 g.l3⟩
def W4.and_ok {x y:W4} (h:x.ok):(x.and y).ok:=⟨Nat.lt_of_le_of_lt and_le_left h.l0,Nat.lt_of_le_of_lt and_le_left h.l1,Nat.lt_of_le_of_lt and_le_left h.l2,Nat.lt_of_le_of_lt and_le_left h.l3⟩
def cK (w:World) (b off:Nat) (x y:W4) (hx:x.ok) (hy:y.ok) (h:gG w b off x) :
  Calls prog 125 #[.pointer (some ⟨b,off,none⟩),lW y.x0 y.x1 y.x2 y.x3] w λe w'=>e=.returned (.tuple #[])/\gG w' b off (x.or y)/\Sx.Fo b off w w':=by
 refine(Sx.wt (.inr rfl) w b off x.x0 x.x1 x.x2 x.x3 y.x0 y.x1 y.x2 y.x3 (aF h.c0) ⟨h.c0,h.c1,h.c2,h.c3,h.fz⟩ ⟨⟨hx.l0,hy.l0⟩,⟨hx.l1,hy.l1⟩,⟨hx.l2,hy.l2⟩,hx.l3,hy.l3⟩).mono ?_;rintro e w' ⟨rfl,⟨a0,a1,a2,a3,a4⟩,f⟩;exact⟨rfl,⟨a0,a1,a2,a3,a4⟩,f⟩
def oO (w:World) (x y:W4) (hx:x.ok) (hy:y.ok) :
  Calls prog 182 #[lW x.x0 x.x1 x.x2 x.x3,lW y.x0 y.x1 y.x2 y.x3] w λe w'=>e=.returned (lW (x.and y).x0 (x.and y).x1 (x.and y).x2 (x.and y).x3)/\Below w.heap.size w w':=by
 obtain⟨x0,x1,x2,x3⟩:=x;obtain⟨u0,u1,u2,u3⟩:=y;have i0:=Sx.uF;have i1:=Sx.uG;have i2:=Sx.uH;have i3:=Sx.uI;obtain⟨z0,c⟩:=zx (x0 &&& u0);obtain⟨z1,d⟩:=zx (x1 &&& u1);obtain⟨z2,f⟩:=zx (x2 &&& u2);obtain⟨z3,g⟩:=zx (x3 &&& u3);have HZ:Hid (W4.and ⟨x0,x1,x2,x3⟩ ⟨u0,u1,u2,u3⟩=⟨z0,z1,z2,z3⟩):=by show _=_;rw[c,d,f,g];rfl
 have e0:bits BinOp.and IntKind.u64 (x0:Int) (u0:Int)=z0:=by rw[c];exact bits_and_u64_nat _ _ hx.l0 hy.l0
 have e1:bits BinOp.and IntKind.u64 (x1:Int) (u1:Int)=z1:=by rw[d];exact bits_and_u64_nat _ _ hx.l1 hy.l1
 have e2:bits BinOp.and IntKind.u64 (x2:Int) (u2:Int)=z2:=by rw[f];exact bits_and_u64_nat _ _ hx.l2 hy.l2
 have e3:bits BinOp.and IntKind.u64 (x3:Int) (u3:Int)=z3:=by rw[g];exact bits_and_u64_nat _ _ hx.l3 hy.l3
 obtain⟨w1,a⟩:=zx (((w.alloc (.cells #[.int .u64 (x0:Int),.int .u64 (x1:Int),.int .u64 (x2:Int),.int .u64 (x3:Int)] 150)).alloc (.cells #[.int .u64 (u0:Int),.int .u64 (u1:Int),.int .u64 (u2:Int),.int .u64 (u3:Int)] 150)).alloc (.cells #[.int .u64 0,.int .u64 0,.int .u64 0,.int .u64 0] 150));have l:Below w.heap.size w w1:=by rw[a];exact(ZA.alloc χ _).alloc σ _
 have h:Sx.Mid w1 w.heap.size 0 0 x0 x1 x2 x3 z0 z1 z2 z3:=by
  have e:w1.heap[w.heap.size]?=some (.cells #[.int .u64 (x0:Int),.int .u64 (x1:Int),.int .u64 (x2:Int),.int .u64 (x3:Int)] 150):=by
   rw[a,Ze _ _ _ σ,Ze _ _ _ χ];exact Za w _
  exact⟨by simp[cell?,e],by simp[cell?,e],by simp[cell?,e],by simp[cell?,e],λo=>by simp[frozen?,e]⟩
 have j:w1.heap[w.heap.size+2]?=some (.cells #[.int .u64 0,.int .u64 0,.int .u64 0,.int .u64 0] 150):=by
  rw[a];have:=Za ((w.alloc (.cells #[.int .u64 (x0:Int),.int .u64 (x1:Int),.int .u64 (x2:Int),.int .u64 (x3:Int)] 150)).alloc (.cells #[.int .u64 (u0:Int),.int .u64 (u1:Int),.int .u64 (u2:Int),.int .u64 (u3:Int)] 150)) (.cells #[.int .u64 0,.int .u64 0,.int .u64 0,.int .u64 0] 150)
  simpa using this
 have HW:=zh a;have p:=zh h;have n:=zh l;have m:=zh j;clear c d f g hx hy a l h j
 go_enter func182,ntmps182
 go_wp2
 rw[<-HW.out]
 go_loopw [9] (λi wr=>∃ k:Nat,k<=4/\i=.int .i64 k/\Sx.Mid wr w.heap.size 0 k x0 x1 x2 x3 z0 z1 z2 z3/\Below w.heap.size w wr/\wr.heap[w.heap.size+2]?=some (.cells #[.int .u64 0,.int .u64 0,.int .u64 0,.int .u64 0] 150)) (λi _=>4-(intOf i).toNat)
 case atStart=>exact⟨0,ω,rfl,p,n,m⟩
 case round=>
  obtain⟨k,hk,rfl,hm,hb,hr⟩:=hrel;have HM:=zh hm;have HB:=zh hb;have HR:=zh hr;obtain⟨c0,c1,c2,c3,fz⟩:=hm;obtain rfl|rfl|rfl|rfl|rfl:k=0\/k=1\/k=2\/k=3\/k=4:=ω
  iterate 4
   .simp at c0 c1 c2 c3;go_wp2
    go_roundw
    case rel=>exact⟨_,ω,π,HM.put χ,HB.setCell zq _,(ah _ _ _ _ ω).trans HR⟩
    case measure=>simp[intOf]
  .simp at c0 c1 c2 c3;obtain⟨y0,y1,y2,y3⟩:=oN HR;have q:∀ o,wr.frozen? ⟨w.heap.size+2,o,none⟩=false:=λo=>by simp[frozen?,HR.out]
   go_wp2
   refine Zb (v:=lW z0 z1 z2 z3) ?_ rfl ⟨?_,?_⟩
   .simp[results,results182,go_sem,y0,y1,y2,y3]
   .rw[HZ.out]
   .have:=HB;exact((Θ this))
def L7:prog.keyTypeAt 3 148=true:=κ
def W4.isE (x:W4):Bool:=decide (x=⟨0,0,0,0⟩)
def L8 (w:World) (x:W4) (hx:x.ok):(Op.equalIn 9999 148 (.agg #[.int .u64 (x.x0:Int),.int .u64 (x.x1:Int),.int .u64 (x.x2:Int),.int .u64 (x.x3:Int)]) (.agg #[.int .u64 0,.int .u64 0,.int .u64 0,.int .u64 0])).run prog w=.ok x.isE w:=by
 obtain⟨r,h1,h2⟩:=run_equalIn_deep 9996 3 _ L7 w 2 2 (.agg #[.int .u64 (x.x0:Int),.int .u64 (x.x1:Int),.int .u64 (x.x2:Int),.int .u64 (x.x3:Int)]) (.agg #[.int .u64 ((0:Nat):Int),.int .u64 ((0:Nat):Int),.int .u64 ((0:Nat):Int),.int .u64 ((0:Nat):Int)]) _ _
  (by simp[Value.formed,underlying148,Fg]) (by simp[Value.formed,underlying148,Fg]) (Fh 0 _ _ _ _ hx.l0 hx.l1 hx.l2 hx.l3) (Fh 0 0 0 0 0 ω ω ω ω)
 have e:r=x.isE:=by
  rw[Bool.eq_iff_iff,h2];obtain⟨a,b,c,d⟩:=x;simp[W4.isE]
 rw[<-e];exact h1
def zG (w:World) (x:W4) (hx:x.ok) :
  Calls prog 183 #[lW x.x0 x.x1 x.x2 x.x3] w λe w'=>e=.returned (.bool x.isE)/\Below w.heap.size w w':=by
 have HE:=L8 (w.alloc (.cells #[.int .u64 (x.x0:Int),.int .u64 (x.x1:Int),.int .u64 (x.x2:Int),.int .u64 (x.x3:Int)] 150)) x hx;obtain⟨r,hr⟩:=zx x.isE;rw[<-hr] at HE ⊢;clear hr hx
 go_enter func183,ntmps183
 cases r
 .go_wp2
  go_ret
  exact⟨rfl,ZA⟩
 .go_wp2
  go_ret
  exact⟨rfl,ZA⟩
def Ik (x k idx:Nat) (w:World) (hx0:((x:Int)==0)=false)
  (key:IntKind.u64.wrap (bits BinOp.and IntKind.u64 (x:Int) (IntKind.u64.wrap (-(x:Int)))*285870213051353865) / 288230376151711744=(idx:Int))
  (hi:idx<64) (hk:k<64) (hcell:w.cell? ⟨1,idx,none⟩=some (.int .u8 k)) :
  Calls prog 201 #[.int .u64 x] w λe w'=>e=.returned (.int .i64 k)/\w'=w:=by
 go_enter func201,ntmps201
 go_wp2
 go_ret
 exact⟨rfl,rfl⟩
def TabZ (w:World):Prop:=TabAt 1 Lib.deBruijn64tab w
def TabZ.keep {w w':World} (h:TabZ w) (k:w'.heap[1]?=w.heap[1]?):TabZ w':=λj hj=>by
 rw[<-h j hj];simp[cell?,k]
def TabZ.lt (h:TabZ w):1<w.heap.size:=aF (h 0 Zr)
def low (x:Nat):Nat:=Lib.ctz 64 x
def Ko (h0:x≠0) (hx:x<18446744073709551616):low x<64:=(Lib.lowest_bit 64 x h0 hx).2
def Kr (x:Nat) (hx:x<18446744073709551616) (hx0:x≠0) (w:World) (hT:TabZ w) :
  Calls prog 201 #[.int .u64 x] w λe w'=>e=.returned (.int .i64 (low x:Nat))/\w'=w:=by
 obtain⟨c,hk⟩:=Lib.lowest_bit 64 x hx0 hx;obtain⟨hi,d⟩:=Lib.deBruijn64_at _ hk;have a:=hT _ hi;rw[d] at a;exact Ik x _ _ w σ (tz64_key x _ hx hx0 c) hi hk a
def zH (x:Nat):Nat:=x &&& (x-1)
def mM (h:x≠0):zH x<x:=Nat.lt_of_le_of_lt and_le_right ω
def sh (x:Nat):List Nat:=if h:x=0 then[] else low x::sh (zH x)
termination_by x
decreasing_by exact mM h
theorem kA:sh 0=[]:=by rw[sh];simp
def lk (h:x≠0):sh x=low x::sh (zH x):=by rw[sh];simp[h]
def W4.all (s:W4):List Nat:=sh s.x0++((sh s.x1).map (64+·)++((sh s.x2).map (128+·)++(sh s.x3).map (192+·)))
def Tryz.infoSg:(prog.info? 9).map (λi=>(i.zero,i.size,i.bytes))=some (some (.string (ba [])),1,16):=κ
def Di (w:World) (p off:Nat) (v:Value) (n:Nat) (xs:List Value) (s:ByteArray) (hc:w.cell? ⟨p,off,none⟩=some v) (hf:w.frozen? ⟨p,off,none⟩=false) (hne:v.ownBlock≠some p)
  (ho:w.ownsRow 0 9 1 v n xs) (hn:n<=1048576) :
  Calls prog 185 #[.pointer (some ⟨p,off,none⟩),Value.string s] w λe w'=>e=.returned (.tuple #[])/\∃ g cap,w'.cell? ⟨p,off,none⟩=some (.slice (some ⟨g,0,none⟩) (n+1) cap) /\
   w'.ownsRow 0 9 1 (.slice (some ⟨g,0,none⟩) (n+1) cap) (n+1) (xs++(Value.string s).cells.toList)/\g≠p/\(v.ownBlock=some g\/w.heap.size<=g)/\Ap p off v.ownBlock w w':=by
 have hp:=aF hc;obtain⟨i0,m,c,f,j⟩:=info_parts Tryz.infoSg;have HO:=zh ho;have r:=new_ne w ⟨p,off,none⟩ hc;have a:∀ q,v.ownBlock=some q->q<w.heap.size:=λq e=>de ho e
 have d:Hid (∀ {w4:World}{g:Nat} (x:Value),((v.ownBlock=some g/\(w.alloc (.cells #[Value.string s] 9)).grownBy w4 (some g))\/(g=(w.alloc (.cells #[Value.string s] 9)).heap.size/\(w.alloc (.cells #[Value.string s] 9)).grownBy w4 none))->Ap p off v.ownBlock w (w4.setCell ⟨p,off,none⟩ x)/\g≠p/\(v.ownBlock=some g\/w.heap.size<=g)/\w4.frozen? ⟨p,off,none⟩=false/\w4.cell? ⟨p,off,none⟩=some v):=λ{w4 g} x hg=>by
  obtain⟨a1,a2,a3,a4⟩:=Bp (x:=x) ((Below.refl _ w).alloc zq _) hp hne a hg hf;refine⟨a1,a2,a3,a4,?_⟩;have:w4.heap[p]?=w.heap[p]?:=by
   rcases hg with⟨h1,h2⟩|⟨h1,h2⟩
   .exact(h2.block p σ (by rw[<-h1];exact λe=>hne e.symm)).trans (((Below.refl _ w).alloc zq _).block p hp)
   .exact(h2.block p σ χ).trans (((Below.refl _ w).alloc zq _).block p hp)
  rw[<-hc];simp[cell?,this]
 go_enter func185,ntmps185
 go_wp2_with (at_builtin;refine aD _ rfl (.tmp 8) (.tmp 10) 57 rfl 0 9 i0 _ 1 16 underlying57 m c f j rfl Zr v n xs rfl (Zm HO _) ⟨w.heap.size,0,none⟩ 1 1 [Value.string s] rfl rfl (news_of_block (w:=w.alloc (.cells #[Value.string s] 9)) (Za w _)) Zt ω Zs ω (Zk _) _ rfl ?_;intro g4 k4 w4 h k o;obtain⟨a1,a2,a3,f0,e0⟩:=d (.slice (some ⟨g4,0,none⟩) (n+1) k4) k;have HA:Hid (g4≠p/\(v.ownBlock=some g4\/w.heap.size<=g4)/\Ap p off v.ownBlock w (w4.setCell ⟨p,off,none⟩ (.slice (some ⟨g4,0,none⟩) (n+1) k4))):=⟨a2,a3,a1⟩;have l:=zh h)
 refine bodyPost_end (results_none rfl _ _ _) rfl ?_;exact⟨rfl,g4,k4,by simp[go_sem,e0],ak l (λb hb=>ah _ _ _ _ (by simp[Value.ownBlock] at hb;rw[<-hb];exact HA.1)),HA⟩
def tp (w:World) :
  Calls prog 138 #[] w λe w'=>e=.returned (.pointer (some ⟨w.heap.size+1,0,none⟩))/\av 9 1 w' (w.heap.size+1) w.heap.size (.slice none 0 0) [] 0/\Below w.heap.size w w':=by
 have a:(Instr.makeMap 304 none).run prog w=.ok (.map (some w.heap.size)) (w.alloc (.map #[] 0)):=run_makeMap _ _
 go_enter func138,ntmps138
 go_wp2
 go_ret
 exact⟨rfl,av.made _ _ _ w,ZA.alloc χ _⟩
def wV (w:World) (p mb:Nat) (v:Value) (vs:List Value) (tk:Nat) (h:av 9 1 w p mb v vs tk) :
  Calls prog 141 #[.pointer (some ⟨p,0,none⟩)] w λe w'=>e=.returned (.int .i64 (vs.length:Int))/\w'=w:=by
 have c0:=h.c0;have hm:=h.mp;have hl:(Builtin.len_ #[304] 3 #[.map (some mb)]).run prog w=.ok (.int .i64 (vs.length:Int)) w:=lj _ underlying304 hm
 go_enter func141,ntmps141
 go_wp2
 go_ret
 exact⟨rfl,rfl⟩
def Fp (w:World) (p mb:Nat) (v:Value) (vs:List Value) (tk:Nat) (s:ByteArray) (i:Nat) (h:av 9 1 w p mb v vs tk)
  (hr:(Instr.lookup 304 (.map (some mb)) (Value.string s) true).run prog w=.ok (.tuple #[.int .i64 (i:Int),.bool true]) w) :
  Calls prog 139 #[.pointer (some ⟨p,0,none⟩),Value.string s] w λe w'=>e=.returned (.int .i64 (i:Int))/\w'=w:=by
 have c0:=h.c0
 go_enter func139,ntmps139
 go_wp2
 go_ret
 exact⟨rfl,rfl⟩
def Fq (w:World) (p mb:Nat) (v:Value) (vs:List Value) (tk:Nat) (s:ByteArray) (h:av 9 1 w p mb v vs tk) (hn:vs.length<=1048576)
  (hr:(Instr.lookup 304 (.map (some mb)) (Value.string s) true).run prog w=.ok (.tuple #[.int .i64 0,.bool false]) w)
  (hu:(Instr.mapUpdate 304 (.map (some mb)) (Value.string s) (.int .i64 (vs.length:Int))).run prog w=.ok () (setBlock w mb (.map (bW (vs++[Value.string s])) (vs++[Value.string s]).length))) :
  Calls prog 139 #[.pointer (some ⟨p,0,none⟩),Value.string s] w λe w'=>e=.returned (.int .i64 (vs.length:Int)) /\
   ∃ g a,av 9 1 w' p mb (.slice (some ⟨g,0,none⟩) (vs.length+1) a) (vs++[Value.string s]) tk/\(v.ownBlock=some g\/w.heap.size<=g)/\cd (cZ p mb v) w w':=by
 have c0:=h.c0;have l:(Builtin.len_ #[304] 3 #[.map (some mb)]).run prog w=.ok (.int .i64 (vs.length:Int)) w:=lj _ underlying304 h.mp;obtain⟨w2,c⟩:=zx (setBlock w mb (.map (bW (vs++[Value.string s])) (vs++[Value.string s]).length));rw[<-c] at hu;obtain⟨q1,q2,q3,q4,q5,q6,q7,q8⟩:=h.put (Value.string s);rw[<-c] at q1 q2 q3 q4 q5 q6;have d:=Di w2 p 1 v vs.length (vs.flatMap λx=>x.cells.toList) s q1 (q3 1) h.ne q4 hn;obtain⟨nv,f⟩:=zx vs.length;have HH:=zh h;have j:=zh f;rw[<-f] at l hu d ⊢;have k:=zh c;clear h c q1 q2 q3 q4 q5 q6 q7 q8 f hn
 go_enter func139,ntmps139
 go_wp2_with (go_at_call 185;refine d.mono ?_;rintro e w3 ⟨rfl,g,a,a1,a2,a3,a4,a5⟩;have HN:Hid (∃ g a,av 9 1 w3 p mb (.slice (some ⟨g,0,none⟩) (nv+1) a) (vs++[Value.string s]) tk/\(v.ownBlock=some g\/w.heap.size<=g)/\cd (cZ p mb v) w w3):=(by rw[j.out] at a1 a2 ⊢;exact⟨g,a,HH.grow ZB k a1 a2 a3 a4 a5⟩))
 go_ret
 exact⟨rfl,HN⟩
def Tryz.infoBy:(prog.info? 5).map (λi=>(i.zero,i.size,i.bytes))=some (some (.int .u8 0),1,1):=κ
def Dj (w:World) (p off:Nat) (v:Value) (n:Nat) (xs:List Value) (c:Nat) (hc:w.cell? ⟨p,off,none⟩=some v) (hf:w.frozen? ⟨p,off,none⟩=false) (hne:v.ownBlock≠some p)
  (ho:w.ownsRow 0 5 1 v n xs) (hn:n<=1048576) :
  Calls prog 143 #[.pointer (some ⟨p,off,none⟩),Value.int .u8 (c:Int)] w λe w'=>e=.returned (.tuple #[])/\∃ g cap,w'.cell? ⟨p,off,none⟩=some (.slice (some ⟨g,0,none⟩) (n+1) cap) /\
   w'.ownsRow 0 5 1 (.slice (some ⟨g,0,none⟩) (n+1) cap) (n+1) (xs++(Value.int .u8 (c:Int)).cells.toList)/\g≠p/\(v.ownBlock=some g\/w.heap.size<=g)/\Ap p off v.ownBlock w w':=by
 have hp:=aF hc;obtain⟨i0,o,d,h,k⟩:=info_parts Tryz.infoBy;have HO:=zh ho;have s:=new_ne w ⟨p,off,none⟩ hc;have a:∀ q,v.ownBlock=some q->q<w.heap.size:=λq e=>de ho e
 have f:Hid (∀ {w4:World}{g:Nat} (x:Value),((v.ownBlock=some g/\(w.alloc (.cells #[Value.int .u8 (c:Int)] 5)).grownBy w4 (some g))\/(g=(w.alloc (.cells #[Value.int .u8 (c:Int)] 5)).heap.size/\(w.alloc (.cells #[Value.int .u8 (c:Int)] 5)).grownBy w4 none))->Ap p off v.ownBlock w (w4.setCell ⟨p,off,none⟩ x)/\g≠p/\(v.ownBlock=some g\/w.heap.size<=g)/\w4.frozen? ⟨p,off,none⟩=false/\w4.cell? ⟨p,off,none⟩=some v):=λ{w4 g} x hg=>by
  obtain⟨a1,a2,a3,a4⟩:=Bp (x:=x) ((Below.refl _ w).alloc zq _) hp hne a hg hf;refine⟨a1,a2,a3,a4,?_⟩;have:w4.heap[p]?=w.heap[p]?:=by
   rcases hg with⟨h1,h2⟩|⟨h1,h2⟩
   .exact(h2.block p σ (by rw[<-h1];exact λe=>hne e.symm)).trans (((Below.refl _ w).alloc zq _).block p hp)
   .exact(h2.block p σ χ).trans (((Below.refl _ w).alloc zq _).block p hp)
  rw[<-hc];simp[cell?,this]
 go_enter func143,ntmps143
 go_wp2_with (at_builtin;refine aD _ rfl (.tmp 8) (.tmp 10) 73 rfl 0 5 i0 _ 1 1 underlying73 o d h k rfl Zr v n xs rfl (Zm HO _) ⟨w.heap.size,0,none⟩ 1 1 [Value.int .u8 (c:Int)] rfl rfl (news_of_block (w:=w.alloc (.cells #[Value.int .u8 (c:Int)] 5)) (Za w _)) Zt ω Zs ω (Zk _) _ rfl ?_;intro g4 k4 w4 j l r;obtain⟨a1,a2,a3,f0,e0⟩:=f (.slice (some ⟨g4,0,none⟩) (n+1) k4) l;have HA:Hid (g4≠p/\(v.ownBlock=some g4\/w.heap.size<=g4)/\Ap p off v.ownBlock w (w4.setCell ⟨p,off,none⟩ (.slice (some ⟨g4,0,none⟩) (n+1) k4))):=⟨a2,a3,a1⟩;have m:=zh j)
 refine bodyPost_end (results_none rfl _ _ _) rfl ?_;exact⟨rfl,g4,k4,by simp[go_sem,e0],ak m (λb hb=>ah _ _ _ _ (by simp[Value.ownBlock] at hb;rw[<-hb];exact HA.1)),HA⟩
def Dk (w:World) :
  Calls prog 81 #[] w λe w'=>e=.returned (.pointer (some ⟨w.heap.size+1,0,none⟩))/\av 5 1 w' (w.heap.size+1) w.heap.size (.slice none 0 0) [] 0/\Below w.heap.size w w':=by
 have a:(Instr.makeMap 258 none).run prog w=.ok (.map (some w.heap.size)) (w.alloc (.map #[] 0)):=run_makeMap _ _
 go_enter func81,ntmps81
 go_wp2
 go_ret
 exact⟨rfl,av.made _ _ _ w,ZA.alloc χ _⟩
def Fs (w:World) (p mb:Nat) (v:Value) (vs:List Value) (tk:Nat) (c:Nat) (i:Nat) (h:av 5 1 w p mb v vs tk)
  (hr:(Instr.lookup 258 (.map (some mb)) (Value.int .u8 (c:Int)) true).run prog w=.ok (.tuple #[.int .i64 (i:Int),.bool true]) w) :
  Calls prog 82 #[.pointer (some ⟨p,0,none⟩),Value.int .u8 (c:Int)] w λe w'=>e=.returned (.int .i64 (i:Int))/\w'=w:=by
 have c0:=h.c0
 go_enter func82,ntmps82
 go_wp2
 go_ret
 exact⟨rfl,rfl⟩
def Ft (w:World) (p mb:Nat) (v:Value) (vs:List Value) (tk:Nat) (c:Nat) (h:av 5 1 w p mb v vs tk) (hn:vs.length<=1048576)
  (hr:(Instr.lookup 258 (.map (some mb)) (Value.int .u8 (c:Int)) true).run prog w=.ok (.tuple #[.int .i64 0,.bool false]) w)
  (hu:(Instr.mapUpdate 258 (.map (some mb)) (Value.int .u8 (c:Int)) (.int .i64 (vs.length:Int))).run prog w=.ok () (setBlock w mb (.map (bW (vs++[Value.int .u8 (c:Int)])) (vs++[Value.int .u8 (c:Int)]).length))) :
  Calls prog 82 #[.pointer (some ⟨p,0,none⟩),Value.int .u8 (c:Int)] w λe w'=>e=.returned (.int .i64 (vs.length:Int)) /\
   ∃ g a,av 5 1 w' p mb (.slice (some ⟨g,0,none⟩) (vs.length+1) a) (vs++[Value.int .u8 (c:Int)]) tk/\(v.ownBlock=some g\/w.heap.size<=g)/\cd (cZ p mb v) w w':=by
 have c0:=h.c0;have m:(Builtin.len_ #[258] 3 #[.map (some mb)]).run prog w=.ok (.int .i64 (vs.length:Int)) w:=lj _ underlying258 h.mp;obtain⟨w2,d⟩:=zx (setBlock w mb (.map (bW (vs++[Value.int .u8 (c:Int)])) (vs++[Value.int .u8 (c:Int)]).length));rw[<-d] at hu;obtain⟨q1,q2,q3,q4,q5,q6,q7,q8⟩:=h.put (Value.int .u8 (c:Int));rw[<-d] at q1 q2 q3 q4 q5 q6;have f:=Dj w2 p 1 v vs.length (vs.flatMap λx=>x.cells.toList) c q1 (q3 1) h.ne q4 hn;obtain⟨nv,j⟩:=zx vs.length;have HH:=zh h;have k:=zh j;rw[<-j] at m hu f ⊢;have l:=zh d;clear h d q1 q2 q3 q4 q5 q6 q7 q8 j hn
 go_enter func82,ntmps82
 go_wp2_with (go_at_call 143;refine f.mono ?_;rintro e w3 ⟨rfl,g,a,a1,a2,a3,a4,a5⟩;have HN:Hid (∃ g a,av 5 1 w3 p mb (.slice (some ⟨g,0,none⟩) (nv+1) a) (vs++[Value.int .u8 (c:Int)]) tk/\(v.ownBlock=some g\/w.heap.size<=g)/\cd (cZ p mb v) w w3):=(by rw[k.out] at a1 a2 ⊢;exact⟨g,a,HH.grow ZB l a1 a2 a3 a4 a5⟩))
 go_ret
 exact⟨rfl,HN⟩
def wW (w:World) (p mb:Nat) (v:Value) (vs:List Value) (h:av 5 1 w p mb v vs vs.length) :
  Calls prog 144 #[.pointer (some ⟨p,1,none⟩)] w λe w'=>e=.returned (.tuple #[.int .u8 0,.bool false])/\Below w.heap.size w w':=by
 obtain⟨a,c,hv⟩:=ku h.own;have c1:=h.c1;have c2:=h.c2;rw[hv] at c1;obtain⟨nv,d⟩:=zx vs.length;rw[<-d] at c1 c2
 go_enter func144,ntmps144
 go_wp2
 go_region
 go_wp2
 go_ret2
 exact⟨rfl,ZB.drew⟩
def wX (w:World) (p mb:Nat) (v:Value) (vs:List Value) (tk:Nat) (c:Nat) (h:av 5 1 w p mb v vs tk) (hx:vs[tk]?=some (.int .u8 (c:Int))) (hn:vs.length<=1048576) :
  Calls prog 144 #[.pointer (some ⟨p,1,none⟩)] w λe w'=>e=.returned (.tuple #[.int .u8 (c:Int),.bool true])/\av 5 1 w' p mb v vs (tk+1)/\cd (cZ p mb v) w w':=by
 have k:=(List.getElem?_eq_some_iff.1 hx).1;obtain⟨g,q,hv,f⟩:=h.at hx ω;have c1:=h.c1;have c2:=h.c2;have f2:=h.fz 2;rw[hv] at c1;have k0:=f 0 ω;simp[Value.cells] at k0;have j:g≠p:=by have:=h.ne;rw[hv] at this;simp[Value.ownBlock] at this;exact this
 have r:=Ne.symm j;obtain⟨nv,d⟩:=zx vs.length;have n:(tk:Int)<nv:=ω;have o:((tk:Int)==nv)=false:=σ;have m:tk<=1048576:=ω;have l:=zh k;rw[<-d] at c1;have a:=zh h
 go_enter func144,ntmps144
 go_wp2
 go_region
 go_wp2
 go_region
 go_wp2
 go_ret2
 exact⟨rfl,(a.took l).drew2,cd.drew (cd.drew (iN (.inl rfl)))⟩
def wY (w:World) (p mb:Nat) (v:Value) (vs:List Value) (h:av 5 1 w p mb v vs vs.length) :
  Calls prog 83 #[.pointer (some ⟨p,0,none⟩)] w λe w'=>e=.returned (.tuple #[.int .u8 0,.bool false])/\Below w.heap.size w w':=by
 have ht:=wW w p mb v vs h
 go_enter func83,ntmps83
 go_wp2_with (go_at_call 144;refine ht.mono ?_;rintro e w2 ⟨rfl,a⟩;have c:=zh a)
 go_ret2
 exact⟨rfl,c⟩
def wZ (w:World) (p mb:Nat) (v:Value) (vs:List Value) (tk:Nat) (c:Nat) (h:av 5 1 w p mb v vs tk) (hx:vs[tk]?=some (.int .u8 (c:Int))) (hn:vs.length<=1048576) :
  Calls prog 83 #[.pointer (some ⟨p,0,none⟩)] w λe w'=>e=.returned (.tuple #[.int .u8 (c:Int),.bool true])/\av 5 1 w' p mb v vs (tk+1)/\cd (cZ p mb v) w w':=by
 have ht:=wX w p mb v vs tk c h hx hn
 go_enter func83,ntmps83
 go_wp2_with (go_at_call 144;refine ht.mono ?_;rintro e w2 ⟨rfl,a⟩;have d:=zh a)
 go_ret2
 exact⟨rfl,d⟩
def nO:Go.Maps.Keyed prog 9:=Go.Maps.string_keyed κ
def qr:Go.Maps.Keyed prog 5:=Go.Maps.int_keyed (q:=.u8) κ
def Il (s:ByteArray) (hs:s.size<=maxLen):∃ l,keyOf prog 9 (.string s)=some l:=by
 have h:prog.underlying 9=some .string:=κ;exact⟨_,by simp[keyOf,h,mapKey];exact⟨hs,rfl⟩⟩
def Fu (l:List UInt8) (hl:l.length<=100000):∃ q,keyOf prog 9 (.string (ba l))=some q:=Il _ (by rw[h_];unfold maxLen;omega)
def Fv (c:UInt8):∃ l,keyOf prog 5 (.int .u8 (c.toNat:Int))=some l:=by
 have h:prog.underlying 5=some (.int .u8):=κ;refine⟨_,Go.Maps.keyOf_int_mk h ?_⟩;have h1:IntKind.u8.min=0:=rfl;have h2:IntKind.u8.max=255:=rfl;have:=c.toNat_lt;simp[Lit.wf,h1,h2];omega
def tu (l:List UInt8):Value:=.string (ba l)
def fy (c:UInt8):Value:=.int .u8 (c.toNat:Int)
def uU {l m:List UInt8} (h:tu l=tu m):l=m:=by
 simp only[tu,Value.string.injEq] at h;have:=congrArg (λb:ByteArray=>b.data.toList) h
 simpa using this
def uV {l m:UInt8} (h:fy l=fy m):l=m:=by
 simp only[fy,Value.int.injEq,true_and] at h;exact UInt8.toNat_inj.1 ω
section
variable {α:Type}{e:α->Value} (hi:∀ {a b},e a=e b->a=b)
include hi
def JD {l:List α}{s:α} (h:(l.map e)[i]?=some (e s)):l[i]?=some s:=by
 rw[getElem?_map] at h;obtain⟨y,hy,q⟩:=Option.map_eq_some_iff.1 h;rw[hy,hi q]
def Bt {l:List α}{s:α}:e s∈l.map e↔s∈l:=
 ⟨λh=>by obtain⟨y,hy,q⟩:=mem_map.1 h;rw[<-hi q];exact hy,λh=>mem_map_of_mem h⟩
end
def w_ (w:World) (p mb:Nat) (v:Value) (l:List (List UInt8)) (tk:Nat) (s:List UInt8) (h:av 9 1 w p mb v (l.map tu) tk) (hl:∀ y∈l,y.length<=100000) (hs:s.length<=100000) (hn:l.length<=1048576) (hd:l.Nodup) :
  Calls prog 139 #[.pointer (some ⟨p,0,none⟩),tu s] w λe w'=>e=.returned (.int .i64 ((@idxOf _ instBEqOfDecidableEq s (aq l s):Nat):Int)) /\
   ∃ v',av 9 1 w' p mb v' ((aq l s).map tu) tk/\(∀ g,v'.ownBlock=some g->v.ownBlock=some g\/w.heap.size<=g)/\cd (cZ p mb v) w w':=by
 have a:∀ y∈l.map tu,∃ q,keyOf prog 9 y=some q:=λy hy=>by
  obtain⟨z,hz,rfl⟩:=mem_map.1 hy;exact Fu _ (hl z hz)
 have hk:=Fu _ hs
 by_cases hm:s∈l
 .obtain⟨i,hi⟩:=mem_iff_getElem?.1 hm;refine(Fp w p mb v (l.map tu) tk (ba s) i h ?_).mono ?_
  .rcases gE (x:=tu s) nO underlying304 (JC w) h.mp a hk with⟨h1,_⟩|⟨j,h1,h2⟩
   .exact absurd ((Bt uU).2 hm) h1
   .have e3:=bE hd (JD uU h1);rw[bE hd hi] at e3;subst e3;exact h2
  .rintro e w' ⟨rfl,hw⟩;have e3:=bE hd hi;simp only[aq,Zi hm,e3,true_and];rw[hw];exact⟨v,h,λg hg=>.inl hg,cd.refl _ _⟩
 .have c:tu s ∉ l.map tu:=λq=>hm ((Bt uU).1 q)
  refine(Fq w p mb v (l.map tu) tk (ba s) h (by simpa using hn) ?_ ?_).mono ?_
  .rcases gE (x:=tu s) nO underlying304 (JC w) h.mp a hk with⟨_,h1⟩|⟨j,h1,h2⟩
   .exact h1
   .exact absurd (mem_of_getElem? h1) c
  .exact py nO underlying304 h.mp a hk c
  .rintro e w' ⟨rfl,g,d,h1,h2,h3⟩;have e3:@idxOf _ instBEqOfDecidableEq s (l++[s])=l.length:=bE (by have:=gF hd s;rwa [aq,Zh hm] at this) χ;simp only[aq,Zh hm,e3,length_map,true_and];refine⟨.slice (some ⟨g,0,none⟩) ((l.map tu).length+1) d,?_,?_,h3⟩
   .rw[map_append];exact h1
   .intro q hq;simp[Value.ownBlock] at hq;subst hq;exact h2
def xa (w:World) (p mb:Nat) (v:Value) (l:List UInt8) (tk:Nat) (s:UInt8) (h:av 5 1 w p mb v (l.map fy) tk) (hn:l.length<=1048576) (hd:l.Nodup) :
  Calls prog 82 #[.pointer (some ⟨p,0,none⟩),fy s] w λe w'=>e=.returned (.int .i64 ((@idxOf _ instBEqOfDecidableEq s (aq l s):Nat):Int)) /\
   ∃ v',av 5 1 w' p mb v' ((aq l s).map fy) tk/\(∀ g,v'.ownBlock=some g->v.ownBlock=some g\/w.heap.size<=g)/\cd (cZ p mb v) w w':=by
 have a:∀ y∈l.map fy,∃ q,keyOf prog 5 y=some q:=λy hy=>by
  obtain⟨z,hz,rfl⟩:=mem_map.1 hy;exact Fv _
 have hk:∃ q,keyOf prog 5 (fy s)=some q:=Fv _
 by_cases hm:s∈l
 .obtain⟨i,hi⟩:=mem_iff_getElem?.1 hm;refine(Fs w p mb v (l.map fy) tk s.toNat i h ?_).mono ?_
  .rcases gE (x:=fy s) qr underlying258 (JC w) h.mp a hk with⟨h1,_⟩|⟨j,h1,h2⟩
   .exact absurd ((Bt uV).2 hm) h1
   .have e3:=bE hd (JD uV h1);rw[bE hd hi] at e3;subst e3;exact h2
  .rintro e w' ⟨rfl,hw⟩;have e3:=bE hd hi;simp only[aq,Zi hm,e3,true_and];rw[hw];exact⟨v,h,λg hg=>.inl hg,cd.refl _ _⟩
 .have c:fy s ∉ l.map fy:=λq=>hm ((Bt uV).1 q)
  refine(Ft w p mb v (l.map fy) tk s.toNat h (by simpa using hn) ?_ ?_).mono ?_
  .rcases gE (x:=fy s) qr underlying258 (JC w) h.mp a hk with⟨_,h1⟩|⟨j,h1,h2⟩
   .exact h1
   .exact absurd (mem_of_getElem? h1) c
  .exact py qr underlying258 h.mp a hk c
  .rintro e w' ⟨rfl,g,d,h1,h2,h3⟩;have e3:@idxOf _ instBEqOfDecidableEq s (l++[s])=l.length:=bE (by have:=gF hd s;rwa [aq,Zh hm] at this) χ;simp only[aq,Zh hm,e3,length_map,true_and];refine⟨.slice (some ⟨g,0,none⟩) ((l.map fy).length+1) d,?_,?_,h3⟩
   .rw[map_append];exact h1
   .intro q hq;simp[Value.ownBlock] at hq;subst hq;exact h2
end Go.Proofs.YtbjabpodkaokjaaGreatDoor

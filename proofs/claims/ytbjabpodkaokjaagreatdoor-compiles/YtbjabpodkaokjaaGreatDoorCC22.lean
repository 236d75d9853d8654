import Derived.Test.YtbjabpodkaokjaaGreatDoorCC21
import Derived.BigGuard
import Derived.Lib.BytesEntry
set_option linter.all false
set_option maxHeartbeats 4000000
set_option maxRecDepth 100000
open List Nat Go.World Go.Proofs.Tryz
namespace Go.Proofs.YtbjabpodkaokjaaGreatDoor
open Go.RowKit
variable {w:World}{n:Nat}{f:Nat->Nat}{s:Rs}{key:Nat->List UInt8}{W:World}{v:Value}{lo:Nat}{us:List Value}{B sp:Nat}{x:Rx}{met:List (List UInt8)}{q:List UInt8}{w1:World}{vs vf:Value}{cls:List Nat}{cols:List (List UInt8)}{g:Nat}{p:Rp}{wq:World}{R4 R6:Nat}{kx:Nat->Nat}{K:Nat}{T:Tn}{c:Nat}{D:Nat->Nat->Bool}{vo:Value}{A:Nat}{va vn:Value}{M' M:Nat->Nat->Bool}{i k j a b tk:Nat}{rows:List (List Nat)}{limit:Nat}{wa w4:World}{base:Nat}{vb:Value}{bl:List UInt8}{W':World}{t:List UInt8}{N:Nat}{R:Option (List (List UInt8)×List (List Nat))}
def GB {α:Type} [DecidableEq α] {xs:List α} (hk:k<xs.length) (h:xs[k] ∉ xs.take k):bU xs xs[k]=k:=by
 obtain⟨x,hx⟩:=zx (xs[k]);rw[<-hx] at h ⊢;have e:xs=xs.take k++x::xs.drop (k+1):=by
  rw[hx,<-drop_eq_getElem_cons hk,take_append_drop]
 unfold bU;rw[e,idxOf_append,Zh h,length_take,Nat.min_eq_left ω,idxOf_cons_self];omega
def mY (cls:List Nat) (cols:List (List UInt8)) (k:Nat):List Nat:=(ai [] (cols.take k)).map λcol=>cls.getD (bU cols col) 0
def GC (hk:k<cols.length) (h:cols[k]∈ai [] (cols.take k)):mY cls cols (k+1)=mY cls cols k:=by
 unfold mY;rw[dG [] hk,aq,Zi h]
def GD (hk:k<cols.length) (hl:cls.length=cols.length) (h:cols[k] ∉ ai [] (cols.take k)):mY cls cols (k+1)=mY cls cols k++[cls[k]'ω]:=by
 have h2:cols[k] ∉ cols.take k:=λq=>h (aH.2 (.inr q))
 unfold mY;rw[dG [] hk,aq,Zh h,map_append,map_cons,map_nil,GB hk h2,getD_eq_getElem?_getD,Zj ω];rfl
variable (cls cols k) in
def GE:(mY cls cols k).length=(ai [] (cols.take k)).length:=by simp[mY]
def DN (cols:List (List UInt8)) (k j:Nat):Value:=if j<k then .int .u8 ((bU (ai [] cols) (cols[j]?.getD []):Nat):Int) else .int .u8 0
structure JI (S:Nat) (wS:World) (fb:Nat) (W:World) (v vo:Value) (met:List (List UInt8)) (f:Nat->Value) (olds:List Nat):Prop where
 li:LI S wS fb 256 W v met f
 ow:W.ownsRow (fb+1) 3 1 vo olds.length (olds.map eN)
section
variable {S:Nat}{wS:World}{fb:Nat}{W W':World}{v vo:Value}{met:List (List UInt8)}{f:Nat->Value}{olds:List Nat}
theorem JI.below (h:JI S wS fb W v vo met f olds) (hS:wS.heap.size=S) (hb:Below W.heap.size W W'):JI S wS fb W' v vo met f olds:=⟨h.li.below hS hb,ak h.ow (λb hb'=>hb.block b (de h.ow hb'))⟩
theorem JI.of (h:JI S wS fb W v vo met f olds) {v':Value}{met':List (List UInt8)} (hn:av 9 1 W' (S+1) S v' (met'.map tu) 0) (hg:∀ g,v'.ownBlock=some g->v.ownBlock=some g\/W.heap.size<=g) (hx:cd (cZ (S+1) S v) W W'):JI S wS fb W' v' vo met' f olds:=by
 refine⟨h.li.of hn hg hx,ak h.ow (λb hb=>hx.block b (de h.ow hb) (λq=>?_))⟩;have h1:=cH h.ow hb;have h2:=h.li.fb2;rcases q with q|q|q
 .omega
 .omega
 .obtain⟨cs,l⟩:=az h.li.num.own q.symm;obtain⟨ds,e⟩:=az h.ow hb;exact aU l e Zr rfl
theorem JI.set (h:JI S wS fb W v vo met f olds) (k:Nat) (hk:k<256) (x:Value):JI S wS fb (W.setCell ⟨fb,k,none⟩ x) v vo met (λj=>if j=k then x else f j) olds:=
 ⟨h.li.set k hk x,ak h.ow (λb hb=>ah _ _ _ _ (η (cH h.ow hb)))⟩
def JI.app (h:JI S wS fb W v vo met f olds) (hS:wS.heap.size=S) {x g k H:Nat} (hwa:Below W.heap.size W wa) (ho:w4.ownsRow (fb+1) 3 1 (.slice (some ⟨g,0,none⟩) (olds.length+1) k) (olds.length+1) (olds.map eN++[eN x])) (hH:wa.heap.size=H)
  (hc:(vo.ownBlock=some g/\wa.grownBy w4 (some g))\/(g=H/\wa.grownBy w4 none)):JI S wS fb w4 v (.slice (some ⟨g,0,none⟩) (olds.length+1) k) met f (olds++[x]):=by
 have u:=hwa.size;have l:=h.li.lt;have h2:=h.li.fb2;have y:=h.li.bl.size;have e:∀ b,b<W.heap.size->vo.ownBlock≠some b->w4.heap[b]?=W.heap[b]?:=λb hb hne=>(ct hH hc ω hne).trans (hwa.block b hb)
 obtain⟨g1,g2,g3,g4⟩:=gk hc;refine⟨⟨h.li.num.keep (λb hb=>e b (h.li.num.lt hb) (λq=>?_)),h.li.nv,h2,h.li.fi.of_block (e fb l (λq=>by have:=cH h.ow q;omega)),⟨g1.trans (hwa.os.trans h.li.bl.os),g2.trans (hwa.tape.trans h.li.bl.tape),g3.trans (hwa.output.trans h.li.bl.output),ω,λb hb=>?_⟩,ω⟩,by simpa using ho⟩
 .have h1:=cH h.ow q;rcases hb with hb|hb|hb
  .omega
  .omega
  .obtain⟨cs,r⟩:=az h.li.num.own hb.symm;obtain⟨ds,m⟩:=az h.ow q;exact aU r m Zr rfl
 .exact(e b ω (λq=>by have:=cH h.ow q;omega)).trans (h.li.bl.block b hb)
end
open Go.RowKit
def fM {α:Type}{enc:α->Value}{e:TypeId}{l:List α} (h:w.ownsRow base e 1 v l.length (l.map enc)):aS enc w v l:=by
 rcases h.2 with⟨rfl,hn⟩|⟨g,m,r,rfl,_⟩
 .exact .inl ⟨eq_nil_of_length_eq_zero hn,none,0,rfl⟩
 .refine .inr ⟨g,0,m,rfl,λj hj=>?_⟩;rw[Nat.zero_add,h.cellAt j ω];simp[hj]
def rA {l:List Nat} (h:aS eN w v l):aS eI w v (l.map Int.ofNat):=by
 rcases h with⟨rfl,a,c,rfl⟩|⟨b,o,c,rfl,hc⟩
 .exact .inl ⟨rfl,a,c,rfl⟩
 .refine .inr ⟨b,o,c,χ,λj hj=>?_⟩;have:=hc j (by simpa using hj)
  simpa using this
def DO (w:World) (f b:Bool) (st:Int) (va vn vb:Value) (cls:List Nat) (next:List (List Nat)) (bl:List UInt8) (hN:fV eI w vn (xo next)) (hB:aS fy w vb bl) (K:Nat) (hcl:cls.length=256) (hck:∀ c∈cls,c<K) (hK:K<=256) (hrow:∀ r∈next,r.length=K/\∀ x∈r,x<bl.length) (hnl:next.length<=200) (hbl:bl.length<=200) (cols:List (List UInt8)) (hcols:cols=cls.map (iJ bl next)) :
  Calls prog 80 #[.agg #[.bool f,.bool b,.int .i64 st,.string (ba (cls.map UInt8.ofNat)),va,vn],vb] w λe w'=>∃ v,e=.returned (.tuple #[.string (ba ((cols.map (bU (ai [] cols))).map UInt8.ofNat)),v])/\(∃ base,w.heap.size<=base/\w'.ownsRow base 3 1 v (fD cls cols).length ((fD cls cols).map eN))/\Below w.heap.size w w':=by
 have b9:cols.length=256:=by rw[hcols];simp[hcl]
 have e3:Hid (∀ k (h:k<cls.length),cols[k]'ω=iJ bl next cls[k]):=λk h=>by simp[hcols]
 have a6:Hid (∀ l∈cols,l.length<=200):=λl hl=>by
  rw[hcols] at hl;obtain⟨c,_,rfl⟩:=mem_map.1 hl;simp[iJ];exact hnl
 have d6:Hid ((ai [] cols).length<=256):=by show _<=_;have:=c_ [] cols;simp at this;omega
 clear hcols;obtain⟨iI,g2,g4,d1,d4⟩:=info_parts Tryz.infoI;have HN:=zh hN;have HB:=zh hB;obtain⟨cb,b3⟩:=zx (ba (cls.map UInt8.ofNat));have h5:cb.size=256:=by rw[b3,h_];simp[hcl]
 have f0:Hid (∀ k (h:k<cb.size),(cb[k]'h).toNat=cls[k]'ω):=λk h=>by
  have hk:k<cls.length:=ω;have e:(cb[k]'h)=UInt8.ofNat cls[k]:=by
   subst b3;show((cls.map UInt8.ofNat).toArray)[k]=_
   simp
  rw[e,UInt8.toNat_ofNat',mod_eq_of_lt (η (hck _ (Zg hk)))]
 rw[<-b3];obtain⟨w1,V⟩:=zx (w.alloc (.cells #[.bool f,.bool b,.int .i64 st,.string cb,va,vn] 33));have b8:Below w.heap.size w w1:=by rw[V];exact ZA
 have d9:w1.heap[w.heap.size]?=some (.cells #[.bool f,.bool b,.int .i64 st,.string cb,va,vn] 33):=by rw[V];exact Za w _
 have f7:w1.heap.size=w.heap.size+1:=by rw[V];simp
 have a7:=tp w1;obtain⟨S,hS⟩:=zx w1.heap.size;rw[<-hS] at a7;have HS:=zh hS.symm;have h4:w.heap.size+1=S:=ω;have Y:Hid (∀ w3,av 9 1 w3 (S+1) S (.slice none 0 0) [] 0->Below S w1 w3->JI S w1 w3.heap.size (w3.alloc (.cells oU 160)) (.slice none 0 0) (.slice none 0 0) [] (DN cols 0) []):=λw3 hn hb=>by
  have h0:=hn.lt (.inl rfl);have c6:Below w3.heap.size w3 (w3.alloc (.cells oU 160)):=ZA;refine⟨⟨hn.keep (λq hq=>c6.block q (hn.lt hq)),λg hg=>by simp[Value.ownBlock] at hg,ω,(JO w3 _).congr (λj hj=>by simp[DN]),hb.trans (c6.mono (η hb.size)),χ⟩,Zn _ _ _ _⟩
 have e4:Hid (∀ W,Below S w1 W->W.heap[w.heap.size]?=some (.cells #[.bool f,.bool b,.int .i64 st,.string cb,va,vn] 33)):=λW hb=>(hb.block _ ω).trans d9
 have f9:Hid (w.heap.size<=S):=by have:=b8.size;show _<=_;omega
 have P:Hid (∀ W,Below S w1 W->Below w.heap.size w W):=λW hb=>b8.trans (hb.mono ω)
 have HW:=zh V;clear hN hB b3 b8 d9 f7 hS V
 go_enter func80,ntmps80
 go_wp2_with (first|(refine jV rfl rfl _ rfl w3.heap.size rfl ?_;generalize c0:World.alloc w3 _=w4;have u:=Y w3 f2 f5;rw[c0] at u;have d7:=zh u;clear c0 u)|(go_at_call 138;rw[<-HW.out];refine a7.mono ?_;rintro e w3 ⟨rfl,d2,d5⟩;have f2:=zh d2;have f5:=zh d5;clear d2 d5))
 obtain⟨fb,e0⟩:=zx w3.heap.size;rw[<-e0] at d7 ⊢;clear e0 a7 Y
 go_loopw [8,13] (λvo i wr=>∃(k:Nat) (v:Value),k<=256/\i=.int .i64 k/\JI S w1 fb wr v vo (ai [] (cols.take k)) (DN cols k) (mY cls cols k)) (λ_ i _=>256-(intOf i).toNat)
 case atStart=>exact⟨0,_,ω,rfl,d7⟩
 case round=>
  obtain⟨k,v,hk,rfl,u⟩:=hrel;have a5:=zh u;obtain⟨oa,oc,H⟩:=mR u.ow
  by_cases hlt:k<256
  .have g6:(k:Int)<256:=ω;have c9:k<cls.length:=ω;have a4:k<cols.length:=ω;have b4:=hck _ (Zg c9);have d0:=e4 wr u.li.bl;obtain⟨t0,t1,t2,t3,t4,t5⟩:=lX d0;have U:=Aa wr f b st cb va vn vb next bl cls[k] (HN.below (P wr u.li.bl)) (HB.below (P wr u.li.bl)) (λr hr=>⟨by rw[(hrow r hr).1];exact b4,(hrow r hr).2,by rw[(hrow r hr).1];exact hK⟩) hnl hbl;rw[<-e3.out k c9] at U;have b5:cols[k]∈cols:=Zg _;have I:=zh (dG [] a4);have L:Hid (bU (ai [] cols) cols[k]=@idxOf _ instBEqOfDecidableEq cols[k] (aq (ai [] (cols.take k)) cols[k])):=qw [] a4;have hC:bU (ai [] cols) cols[k]<256:=by
    have h1:bU (ai [] cols) cols[k]<(ai [] cols).length:=eZ (aH.2 (.inr b5));have:=d6.out;omega
   have b1:Hid (∀ j,j<256->(if j=k then(Value.int .u8 ((bU (ai [] cols) cols[k]:Nat):Int)) else DN cols k j)=DN cols (k+1) j):=λj hj=>by
    unfold DN
    by_cases e:j=k
    .subst e;rw[Zi rfl,Zi ω,Zj a4];rfl
    .rw[Zh e]
     by_cases e2:j<k
     .rw[Zi e2,Zi ω]
     .rw[Zh e2,Zh ω]
   have f3:(ai [] (cols.take k)).length<=256:=by have:=c_ [] (cols.take k);simp at this;omega
   have a9:=(λW (h:JI S w1 fb W v u8 (ai [] (cols.take k)) (DN cols k) (mY cls cols k))=>w_ W (S+1) S v (ai [] (cols.take k)) 0 cols[k] h.li.num (λy hy=>by
    have:y∈cols:=mem_of_mem_take (by simpa using aH.1 hy)
    have:=a6 y this;omega) (η (a6 _ b5)) ω (bR χ _))
   simp only[<-L.out] at a9;have J:Hid (∀ W,JI S w1 fb W v u8 (ai [] (cols.take k)) (DN cols k) (mY cls cols k)->Calls prog 139 #[.pointer (some ⟨S+1,0,none⟩),.string (ba cols[k])] W λe w''=>e=.returned (.int .i64 ((bU (ai [] cols) cols[k]:Nat):Int))/\∃ v2,av 9 1 w'' (S+1) S v2 ((aq (ai [] (cols.take k)) cols[k]).map tu) 0/\(∀ g,v2.ownBlock=some g->v.ownBlock=some g\/W.heap.size<=g)/\cd (cZ (S+1) S v) W w''):=a9;have z:=GE cls cols k;have O:=GC (cls:=cls) a4;have G:=GD (cls:=cls) a4 ω;obtain⟨X,hX⟩:=zx (cols[k]);obtain⟨m,hm⟩:=zx (ai [] (cols.take k));obtain⟨D,hD⟩:=zx (cls[k]);obtain⟨OK,c1⟩:=zx (mY cls cols k);rw[<-hX] at U I L b1 J hC O G;rw[<-hm] at I L J a5 f3 z O G;rw[<-hD] at U G b4;have g9:∀ h:k<cb.size,((cb[k]'h).toNat:Nat)=D:=λh=>(f0 k h).trans hD.symm
   rw[<-c1] at J a5 z O G H;obtain⟨C,c4⟩:=zx (bU (ai [] cols) X);rw[<-c4] at L b1 J hC;have i3:(C:Int)<256:=ω;have i2:(D:Int)<256:=ω;clear u b5 a9 hX hm c4 d0 hD c1
   by_cases hmem:X∈m
   .have f8:Hid (aq m X=m):=by show _=_;rw[aq,Zi hmem]
    have b6:=zh (O hmem);have g8:¬ C=m.length:=λq=>by rw[L.out] at q;exact jx.1 q hmem
    rw[z] at H;have h3:=zh H;subst H;have g5:(((C:Int)==(m.length:Int)):Bool)=false:=σ;clear hmem O G z;go_wp2_with (first|(go_at_call 139;refine(J w5 b0).mono ?_;rintro e w6 ⟨rfl,v2,a1,a3,a2⟩;have F:=b0.of a1 a3 a2;have Z:=zh F;have g3:=F.li.fi.c k hlt;have e9:=F.li.fi.fz;clear a1 a3 a2 F)|(go_at_call 142;refine U.mono ?_;rintro e w5 ⟨rfl,a8⟩;have b0:=zh (a5.below HS a8);clear a8))
    go_roundw
    case rel=>
     refine⟨k+1,v2,ω,π,?_⟩;have h7:=Z.set k hlt (.int .u8 (C:Int));rw[I.out,b6.out];exact⟨⟨h7.li.num,h7.li.nv,h7.li.fb2,h7.li.fi.congr b1,h7.li.bl,h7.li.lt⟩,h7.ow⟩
    case measure=>simp[intOf]<;>omega
   .have f8:Hid (aq m X=m++[X]):=by show _=_;rw[aq,Zh hmem]
    have b6:=zh (G hmem);have e7:C=m.length:=by rw[L.out];exact jx.2 hmem
    rw[z] at H;subst H;subst e7;clear hmem O G;have f6:Hid (∀ W v2 m',JI S w1 fb W v2 (.slice oa m.length oc) m' (DN cols k) OK->W.ownsRow (fb+1) 3 1 (.slice oa m.length oc) m.length (OK.map eN)):=λW v2 m' h=>by rw[<-z];have:=h.ow;rw[z] at this ⊢;exact this
    have g0:Hid (∀ W v2,JI S w1 fb W v2 (.slice oa m.length oc) (aq m X) (DN cols k) OK->∀ {w4:World}{g kk:Nat},w4.ownsRow (fb+1) 3 1 (.slice (some ⟨g,0,none⟩) (m.length+1) kk) (m.length+1) (OK.map eN++[eN D])->(((Value.slice oa m.length oc).ownBlock=some g/\(W.alloc (.cells #[.int .i64 (D:Int)] 3)).grownBy w4 (some g))\/(g=(W.alloc (.cells #[.int .i64 (D:Int)] 3)).heap.size/\(W.alloc (.cells #[.int .i64 (D:Int)] 3)).grownBy w4 none))->JI S w1 fb w4 v2 (.slice (some ⟨g,0,none⟩) (m.length+1) kk) (aq m X) (DN cols k) (OK++[D])):=λW v2 h {w4 g kk} ho hc=>by
     have:=h.app HS (wa:=W.alloc (.cells #[.int .i64 (D:Int)] 3)) (x:=D) (g:=g) (k:=kk) (w4:=w4) ZA (by rw[z];exact ho) rfl hc;rw[z] at this;exact this
    have c8:Hid (∀ W v2 m',JI S w1 fb W v2 (.slice oa m.length oc) m' (DN cols k) OK->fb+1<=W.heap.size):=λW v2 m' h=>h.li.lt
    clear z;go_wp2_with (first|(at_builtin;refine aD _ rfl (.tmp 31) (.tmp 33) 40 rfl (fb+1) 3 iI _ 1 8 underlying40 g2 g4 d1 d4 rfl Zr (.slice oa m.length oc) m.length (OK.map eN) rfl (Zm (f6 w6 v2 _ Z) _) ⟨w6.heap.size,0,none⟩ 1 1 [.int .i64 (D:Int)] rfl rfl (news_of_block (Za w6 _)) Zt ω Zs ω (by have:=c8 w6 v2 _ Z;simp;omega) _ rfl ?_;intro g7 k7 w7 d3 c3 i1;have b2:=g0 w6 v2 Z d3 c3;have e6:=zh b2;have h6:=b2.li.fi.c k hlt;have h9:=b2.li.fi.fz;clear d3 c3 b2)|(go_at_call 139;refine(J w5 b0).mono ?_;rintro e w6 ⟨rfl,v2,a1,a3,a2⟩;have F:=b0.of a1 a3 a2;have Z:=zh F;have g3:=F.li.fi.c k hlt;have e9:=F.li.fi.fz;clear a1 a3 a2 F)|(go_at_call 142;refine U.mono ?_;rintro e w5 ⟨rfl,a8⟩;have b0:=zh (a5.below HS a8);clear a8))
    go_roundw
    case rel=>
     refine⟨k+1,v2,ω,π,?_⟩;have h8:=e6.set k hlt (.int .u8 (m.length:Int));rw[I.out,b6.out];exact⟨⟨h8.li.num,h8.li.nv,h8.li.fb2,h8.li.fi.congr b1,h8.li.bl,h8.li.lt⟩,h8.ow⟩
    case measure=>simp[intOf]<;>omega
  .have i0:¬(k:Int)<256:=ω;have f1:k=256:=ω;subst f1;have d8:((cols.map (bU (ai [] cols))).map UInt8.ofNat).length=256:=by simp[b9]
   have c2:Nw wr fb 256 (λj=>.int .u8 ((((cols.map (bU (ai [] cols))).map UInt8.ofNat)[j]?.getD 0).toNat:Int)):=u.li.fi.congr (λj hj=>by
    have c7:j<cols.length:=ω;have e1:=Zd (eZ (aH.2 (.inr (Zg c7)))) d6;unfold DN;rw[Zi hj,getElem?_map,getElem?_map,Zj c7];simp only[Option.getD_some,Option.map_some]
    rw[UInt8.toNat_ofNat',mod_eq_of_lt e1])
   have f4:=B1 c2 d8;have e5:Hid (∃ base,w.heap.size<=base/\wr.ownsRow base 3 1 u8 (fD cls cols).length ((fD cls cols).map eN)):=by
    have h1:=u.ow;have h2:mY cls cols 256=fD cls cols:=by unfold mY fD;rw[take_of_length_le ω]
    rw[h2] at h1;exact⟨fb+1,by have:=u.li.fb2;have:=f9;omega,h1⟩
   obtain⟨LL,b7⟩:=zx ((cols.map (bU (ai [] cols))).map UInt8.ofNat);have g1:=zh b7;rw[<-b7] at f4;clear c2 d8 b7 u H;go_wp2
   refine Zb (v:=.tuple #[.string (ba LL),u8]) (by simp[results,results80,go_sem]) rfl ⟨u8,by rw[g1.out];simp,e5,P wr a5.li.bl⟩
def Tryz.infoQB:(prog.info? 4).map (λi=>(i.zero,i.size,i.bytes))=some (some (.bool false),1,1):=κ
def Tryz.infoQL:(prog.info? 30).map (λi=>(i.zero,i.size,i.bytes))=some (some (.slice none 0 0),1,24):=κ
structure TO (B:Nat) (w1 W:World) (n:Nat) (D:Nat->Nat->Bool) (vo:Value) (gs:List Nat):Prop where
 bl:Below B w1 W
 hB:B<=w1.heap.size
 ow:W.ownsRow B 30 1 vo gs.length (gs.map (jH n))
 nw:∀ j (h:j<gs.length),Nw W gs[j] n (λk=>.bool (D j k))
 lo:∀ j (h:j<gs.length),B<=gs[j]/\gs[j]<W.heap.size
 nd:gs.Nodup
 no:∀ g,vo.ownBlock=some g->g ∉ gs
def TO.below {gs:List Nat} (h:TO B w1 W n D vo gs) (hb:Below W.heap.size W W'):TO B w1 W' n D vo gs:=
 ⟨h.bl.trans (hb.mono (Zc h.hB h.bl.size)),h.hB,ak h.ow (λb q=>hb.block b (de h.ow q)),λj hj=>(h.nw j hj).of_block (hb.block _ (h.lo j hj).2),λj hj=>⟨(h.lo j hj).1,Zd (h.lo j hj).2 hb.size⟩,h.nd,h.no⟩
def TO.set {gs:List Nat} (h:TO B w1 W n D vo gs) {q:Nat} (hq:B<=q) (h1:q ∉ gs) (h2:vo.ownBlock≠some q) (o:Nat) (v:Value):TO B w1 (W.setCell ⟨q,o,none⟩ v) n D vo gs:=
 ⟨h.bl.setCell hq _,h.hB,ak h.ow (λb e=>ah _ _ _ _ (λe2=>h2 (e2▸e))),λj hj=>(h.nw j hj).of_block (ah _ _ _ _ (λe2=>h1 (e2▸Zg hj))),λj hj=>⟨(h.lo j hj).1,by rw[cQ];exact(h.lo j hj).2⟩,h.nd,h.no⟩
def TO.app {gs:List Nat} (h:TO B w1 W n D vo gs) {q g cap H:Nat} (hq:Nw W q n (λk=>.bool (D gs.length k))) (hl:B<=q/\q<W.heap.size) (h1:q ∉ gs) (h2:vo.ownBlock≠some q) (hwa:Below W.heap.size W wa) (ho:w4.ownsRow B 30 1 (.slice (some ⟨g,0,none⟩) (gs.length+1) cap) (gs.length+1) (gs.map (jH n)++[jH n q])) (hH:wa.heap.size=H)
  (hc:(vo.ownBlock=some g/\wa.grownBy w4 (some g))\/(g=H/\wa.grownBy w4 none)):TO B w1 w4 n D (.slice (some ⟨g,0,none⟩) (gs.length+1) cap) (gs++[q]):=by
 have y:=hwa.size;have hz:=h.bl.size;have hB:=h.hB;have m:∀ b,b<W.heap.size->vo.ownBlock≠some b->w4.heap[b]?=W.heap[b]?:=λb hb hne=>(ct hH hc ω hne).trans (hwa.block b hb)
 obtain⟨g1,g2,g3,g4⟩:=gk hc;have u:∀ b,b∈gs->vo.ownBlock≠some b:=λb hb e=>h.no b e hb
 refine⟨⟨g1.trans (hwa.os.trans h.bl.os),g2.trans (hwa.tape.trans h.bl.tape),g3.trans (hwa.output.trans h.bl.output),ω,λb hb=>?_⟩,hB,by simpa using ho,λj hj=>?_,λj hj=>?_,?_,λb hb hm=>?_⟩
 .exact(m b ω (λe=>by have:=cH h.ow e;omega)).trans (h.bl.block b hb)
 .rcases Nat.lt_or_ge j gs.length with l|l
  .rw[Zp l];exact(h.nw j l).of_block (m _ (h.lo j l).2 (u _ (Zg l)))
  .have r:j=gs.length:=by simp at hj;omega
   subst r;simp only[getElem_append_right zq,Nat.sub_self,getElem_cons_zero];exact hq.of_block (m q hl.2 h2)
 .rcases Nat.lt_or_ge j gs.length with l|l
  .rw[Zp l];exact⟨(h.lo j l).1,by have:=(h.lo j l).2;omega⟩
  .have r:j=gs.length:=by simp at hj;omega
   subst r;simp only[getElem_append_right zq,Nat.sub_self,getElem_cons_zero];exact⟨hl.1,ω⟩
 .rw[nodup_append];exact⟨h.nd,χ,λa ha b hb e=>by simp at hb;subst hb;subst e;exact h1 ha⟩
 .simp[Value.ownBlock] at hb;subst hb;rcases hc with⟨e,-⟩|⟨e,-⟩
  .rcases mem_append.1 hm with q1|q1
   .exact h.no g e q1
   .simp at q1;subst q1;exact h2 e
  .rcases mem_append.1 hm with q1|q1
   .obtain⟨j,hj,e2⟩:=mem_iff_getElem.1 q1;have:=(h.lo j hj).2;omega
   .simp at q1;omega
structure MX (B:Nat) (w1 W:World) (n A:Nat) (gs:List Nat) (M:Nat->Nat->Bool):Prop where
 bl:Below B w1 W
 gl:gs.length=n
 oc:∀ i (h:i<gs.length),W.cell? ⟨A,i,none⟩=some (jH n gs[i])
 nw:∀ i (h:i<gs.length),Nw W gs[i] n (λk=>.bool (M i k))
 lo:∀ i (h:i<gs.length),B<=gs[i]/\gs[i]≠A
 nd:gs.Nodup
 hA:B<=A
def AH (M:Nat->Nat->Bool) (i k:Nat) (v:Bool):Nat->Nat->Bool:=λa b=>if a=i/\b=k then v else M a b
theorem MX.set {gs:List Nat} (h:MX B w1 W n A gs M)  (hi:i<gs.length) (hk:k<n) (v:Bool):MX B w1 (W.setCell ⟨gs[i],k,none⟩ (.bool v)) n A gs (AH M i k v):=by
 obtain⟨l1,l2⟩:=h.lo i hi;refine⟨h.bl.setCell l1 _,h.gl,λj hj=>?_,λj hj=>?_,h.lo,h.nd,h.hA⟩
 .have e:=ah W gs[i] k (.bool v) (Ne.symm l2);rw[<-h.oc j hj];simp only[cell?,e]
 .by_cases e:j=i
  .subst e;exact((h.nw j hj).set k hk (.bool v)).congr (λb hb=>by unfold AH;by_cases e:b=k<;>simp[e])
  .refine((h.nw j hj).of_block (ah _ _ _ _ (λe2=>e ((getElem_inj h.nd).1 e2)))).congr (λb hb=>?_);unfold AH;simp[e]
def TO.mx {gs:List Nat} (h:TO B w1 W n D vo gs) (hn:gs.length=n) (h1:0<n):∃ A l,vo=.slice (some ⟨A,0,none⟩) n l/\MX B w1 W n A gs D:=by
 have ho:=h.ow;rcases ho.2 with⟨-,q⟩|⟨g,l,m,e,hb,hh,q1,q2,q3,q4⟩
 .omega
 .subst e;refine⟨g,l,by rw[hn],h.bl,hn,λi hi=>?_,h.nw,λi hi=>⟨(h.lo i hi).1,λe=>h.no g rfl (e▸Zg hi)⟩,h.nd,hb⟩;obtain⟨b,o,c,e,hc⟩:=(fM h.ow).nonnil ω;injection e with e1 e2 e3;injection e1 with e1;injection e1 with e4 e5 e6;subst e4;subst e5;have:=hc i hi
  rwa [Nat.zero_add] at this
theorem ue {α:Type} (p q:α->Bool):∀ {l:List α},(∀ x∈l,q x=true->p x=true)->(∃ x∈l,p x=true/\q x=false)->l.countP q<l.countP p
 |[],_,⟨x,hx,_⟩=>by simp at hx
 |y::l,h,⟨x,hx,h1,h2⟩=>by
  have hm:l.countP q<=l.countP p:=countP_mono_left (λz hz=>h z (by simp[hz]));rw[countP_cons,countP_cons];rcases mem_cons.1 hx with rfl|hx
  .rw[h1,h2];simp;omega
  .have ih:=ue p q (l:=l) (λz hz=>h z (by simp[hz])) ⟨x,hx,h1,h2⟩;have hy:=h y χ
   cases hq:q y with
   |true=>rw[hy hq];simp;omega
   |false=>simp;split<;>omega
def falses (n:Nat) (M:Nat->Nat->Bool):Nat:=((List.range n).flatMap λa=>(List.range n).map λb=>(a,b)).countP (λp=>!M p.1 p.2)
def DP (h:∀ a b,M a b=true->M' a b=true)  (ha:a<n) (hb:b<n) (h1:M a b=false) (h2:M' a b=true):falses n M'<falses n M:=by
 refine ue _ _ (λx _ hx=>?_) ⟨(a,b),?_,by simp[h1],by simp[h2]⟩
 .simp only[Bool.not_eq_true'] at hx ⊢
  cases hm:M x.1 x.2 with
  |false=>rfl
  |true=>rw[h _ _ hm] at hx;cases hx
 .simp[ha,hb]
def DQ (h:∀ a b,M a b=true->M' a b=true):falses n M'<=falses n M:=by
 refine countP_mono_left (λx _ hx=>?_);simp only[Bool.not_eq_true'] at hx ⊢
 cases hm:M x.1 x.2 with
 |false=>rfl
 |true=>rw[h _ _ hm] at hx;cases hx
def vJ (h:∀ a b,a<n->b<n->M a b=M' a b):falses n M=falses n M':=by
 refine countP_congr (λx hx=>?_);simp only[mem_flatMap,mem_range,mem_map] at hx;obtain⟨a,ha,b,hb,rfl⟩:=hx;simp[h a b ha hb]
def AJ (w:World) (g o:Nat):Bool:=match w.cell? ⟨g,o,none⟩ with
 |some (.bool b)=>b
 |_=>false
theorem MX.falses {gs:List Nat} (h:MX B w1 W n A gs M):falses n (λa b=>AJ W (gs.getD a 0) b)=falses n M:=by
 refine vJ (λa b ha hb=>?_);have l:a<gs.length:=by rw[h.gl];exact ha
 have e:gs.getD a 0=gs[a]:=by simp[l]
 simp only[AJ,e,(h.nw a l).c b hb]
def MX.drew1 {gs:List Nat} (h:MX B w1 W n A gs M):MX B w1 W.drew n A gs M:=⟨⟨h.bl.os,h.bl.tape,h.bl.output,h.bl.size,h.bl.block⟩,h.gl,h.oc,λi hi=>⟨(h.nw i hi).c,(h.nw i hi).fz⟩,h.lo,h.nd,h.hA⟩
def LZ (n c:Nat) (nxt:Nat->Nat->Nat) (M:Nat->Nat->Bool):Prop:=∀ a b e,a<n->b<n->e<c->M a b=false->M (nxt a e) (nxt b e)=false
structure Hr (lo:Nat) (w:World) (sp:Nat) (x:Rx) (p:Rp) (vs vf:Value) (us:List Value) (f l:Value):Prop where
 sx:im lo w sp x vs vf us
 pc:vD lo w (MB sp vs vf us) f l p
 lw:lo<=w.heap.size
 n:x.sets.length<=64
 fn:x.fol.length=x.sets.length
 bf:∀ i∈p.first,i<x.sets.length
 br:∀ i j,j∈x.fol.getD i []->j<x.sets.length
 lf:p.first.length<=1000
 ll:p.last.length<=1000
 lr:∀ i,(x.fol.getD i []).length<=900000000
abbrev K3 (sp:Nat) (e:Bool) (f l:Value) (fr:Bool):Value:=.agg #[.pointer (some ⟨sp,0,none⟩),.bool e,f,l,.bool fr]
def pn (x:Rx) (p:Rp) (fr:Bool):Rs:=⟨x.sets,x.fol,p.em,p.first,p.last,fr⟩
def ug (h:im lo w sp x vs vf us):∃ A c,vs=.slice A x.sets.length c:=by
 rcases h.s.2 with⟨h1,h2⟩|⟨g,l,e,hv,_⟩
 .exact⟨none,0,by rw[h1,h2]⟩
 .exact⟨_,_,hv⟩
def AK {f l:Value} (h:Hr lo w sp x p vs vf us f l) (fr:Bool) :
  Calls prog 91 #[K3 sp p.em f l fr] w λe w'=>e=.returned (.string (ba (nV (pn x p fr))))/\Below w.heap.size w w':=by
 obtain⟨A,cs,V⟩:=ug h.sx;obtain⟨a1,n1,c1,b3⟩:=h.pc.f.shape;obtain⟨a2,n2,c2,b4⟩:=h.pc.l.shape;subst b3;subst b4;obtain⟨n,hn⟩:=zx x.sets.length;have b8:n<=64:=by rw[hn];exact h.n
 have a7:=zh hn;rw[<-hn] at V;obtain⟨iB,b2,Z,I,L⟩:=info_parts Tryz.infoQB;have b0:=λw0=>dv underlying30 b2 Z I L n ω Zs w0
 have HR:=zh h;have C:=h.sx.h;rw[V] at C;have U:=(ZC C)
 have a8:Hid (∀ W,Below w.heap.size w W->W.cell? ⟨sp,0,none⟩=some (.slice A n cs)):=λW hW=>by
  have:W.heap[sp]?=_:=(hW.block sp U).trans C;simp[cell?,this]
 have a4:Hid (∀(W:World) (q:Nat) (P:Nat->Bool) (c:Nat),Below w.heap.size w W->w.heap.size<=q->Nw W q n (λx=>.bool (P x))->Calls prog 157 #[.slice (some ⟨q,0,none⟩) n c,.slice a1 n1 c1] W λe w'=>e=.returned (.tuple #[])/\Nw w' q n (λx=>.bool (P x||p.first.contains x))/\W.grownBy w' (some q)):=λW q P c hW hq hnw=>ud (h.pc.f.below hW) (η h.lf) hnw ω (λe=>by have:=(h.pc.f.lt e).2;omega) (λi hi=>by rw[hn];exact h.bf i hi)
 have b7:Hid (∀(W:World) (q:Nat) (P:Nat->Bool) (c:Nat) (e:Bool),q<W.heap.size->Nw W q n (λx=>.bool (P x))->Calls prog 158 #[.slice (some ⟨q,0,none⟩) n c,.bool e] W λe' w'=>e'=.returned (.string (ba (si n P e)))/\Below W.heap.size W w'):=λW q P c e hq hnw=>ry hnw ω hq e
 clear h hn C
 go_enter func91,ntmps91
 go_upto_region 1 with(fail)
 obtain⟨B,hB⟩:=zx w.heap.size;obtain⟨W1,r⟩:=zx (w.alloc (.cells #[.pointer (some ⟨sp,0,none⟩),.bool p.em,.slice a1 n1 c1,.slice a2 n2 c2,.bool fr] 110));have F:W1.heap[B]?=some (.cells #[.pointer (some ⟨sp,0,none⟩),.bool p.em,.slice a1 n1 c1,.slice a2 n2 c2,.bool fr] 110):=by rw[r,hB];exact Za w _
 have z:Hid (Below w.heap.size w W1):=by show Below _ _ _;rw[r];exact ZA
 have b6:=zh F;have H:Hid (W1.heap.size=B+1/\B=w.heap.size):=⟨by rw[r,hB];simp,hB⟩
 have q0:=a8 W1 z;obtain⟨s0,s1,s2,s3,s4⟩:=fQ F;rw[<-r,<-hB];clear r hB F
 go_upto_region 2 with(fail)
 obtain⟨G,hG⟩:=zx W1.heap.size;obtain⟨W2,m⟩:=zx (W1.alloc (.cells (jp n (.bool false)) 4));have O:Hid (Below W1.heap.size W1 W2):=by show Below _ _ _;rw[m];exact ZA
 have Y:Hid (Nw W2 G n (λx=>.bool ((λ_=>false) x))):=by show Nw _ _ _ _;rw[m,hG];exact Nw.new W1 n (.bool false) rfl 4
 have HG:Hid (G=W1.heap.size/\W2.heap.size=G+1):=⟨hG,by rw[m,hG];simp⟩
 have J:=zh ((O.block B (η H.1)).trans b6);have y:=zh (z.trans (O.mono z.size));have a3:w.heap.size<=G:=by rw[hG];exact z.size
 rw[<-m,<-hG];clear m hG s0 s1 s2 s3 s4 q0 b0;obtain⟨s0,s1,s2,s3,s4⟩:=fQ J
 go_upto_region 3 with(go_at_call 157;refine(a4 W2 G _ _ y a3 Y).mono ?_;rintro e w3 ⟨rfl,a6,a5⟩;have a9:=zh a6;have u:=zh a5)
 have X:=(u.block B (ξ H.1 HG.out) (λe=>by injection e with e;have:=H.1;have:=HG.out;omega)).trans J;obtain⟨s0,s1,s2,s3,s4⟩:=fQ X;go_wp2_with (go_at_call 158;refine(b7 w3 G _ _ _ (ξ u.size HG.out) a9.out).mono ?_;rintro e w4 ⟨rfl,b5⟩;have b1:=zh b5)
 go_ret
 refine⟨?_,?_⟩
 .show Ending.returned (.string (ba (si n _ p.em)))=_;unfold nV pn;rw[a7.out]
  congr 3
  exact jj (λi _=>χ) rfl
 .exact(y.trans (dQ u (λb e=>by injection e with e;omega) y.size)).trans (b1.mono (ξ u.size y.size))
open Sx (bL dc mg)
theorem B5:∀(ss:List (Nat->Bool)) (j c:Nat) (hj:j<ss.length),c<256->(ss.flatMap bL)[256*j+c]?=some (.bool (ss[j] c))
 |[],j,c,hj,_=>by simp at hj
 |s::ss,0,c,hj,hc=>by
  rw[flatMap_cons,Nat.mul_zero,Nat.zero_add,Zo (by rw[dc];exact hc)];exact mg s c hc
 |s::ss,j+1,c,hj,hc=>by
  rw[flatMap_cons,getElem?_append_right (by rw[dc];omega),dc,show 256*(j+1)+c-256=256*j+c by omega];exact B5 ss j c (by simpa using hj) hc
def GF (h:im lo w sp x vs vf us)  (hj:j<x.sets.length) (hc:c<256):∃ V e,vs=.slice (some ⟨V,0,none⟩) x.sets.length e/\V<w.heap.size/\w.cell? ⟨V,256*j+c,none⟩=some (.bool (x.sets[j] c)):=by
 rcases h.s.2 with⟨h1,h2⟩|⟨V,e,l,hv,_,hg,m,r,u,ht⟩
 .omega
 .refine⟨V,e,hv,(ZC hg),?_⟩;have h3:l.toList[256*j+c]?=some (.bool (x.sets[j] c)):=by
   have h4:(l.toList.take (x.sets.length*256))[256*j+c]?=some (.bool (x.sets[j] c)):=by rw[ht];exact B5 _ _ _ hj hc
   rwa [getElem?_take_of_lt ω] at h4
  simp[cell?,hg]
  simpa using h3
def GG (h:im lo w sp x vs vf us)  (hj:j<us.length):∃ F e,vf=.slice (some ⟨F,0,none⟩) x.fol.length e/\F<w.heap.size/\w.cell? ⟨F,j,none⟩=some us[j]:=by
 have m:=h.ul;rcases h.f.2 with⟨h1,h2⟩|⟨F,e,l,hv,_,hg,u,r,y,ht⟩
 .omega
 .refine⟨F,e,hv,(ZC hg),?_⟩;have h3:l.toList[j]?=some us[j]:=by grind
  simp[cell?,hg]
  simpa using h3
def GH (s:Rs) (q:List UInt8) (c j:Nat):List Nat:=(List.range j).filter λi=>q.getD i 0==49&&s.sets.getD i (λ_=>false) c
variable (s q c j) in
theorem xT:GH s q c (j+1)=GH s q c j++(if (q.getD j 0==49&&s.sets.getD j (λ_=>false) c)=true then[j] else[]):=by
 unfold GH;rw[range_succ,filter_append]
 congr 1
 by_cases h:(q.getD j 0==49&&s.sets.getD j (λ_=>false) c)=true
 .simp_all
 .simp_all
def vK (s:Rs) (q:List UInt8) (c j x:Nat):Bool:=(GH s q c j).any λi=>(s.fol.getD i []).contains x
def DR (s:Rs) (q:List UInt8) (c j:Nat):Bool:=(GH s q c j).any λi=>s.last.contains i
def Ly (h:(q.getD j 0==49&&s.sets.getD j (λ_=>false) c)=false):DR s q c (j+1)=DR s q c j/\∀ y,vK s q c (j+1) y=vK s q c j y:=by grind [GH,xT,DR,vK]
def Mn (h:(q.getD j 0==49&&s.sets.getD j (λ_=>false) c)=true):DR s q c (j+1)=(DR s q c j||s.last.contains j)/\∀ y,vK s q c (j+1) y=(vK s q c j y||(s.fol.getD j []).contains y):=by grind [GH,xT,DR,vK]
def DS {f l:Value} (h:Hr lo w sp x p vs vf us f l) (fr:Bool) (q:List UInt8) (hq:q.length=x.sets.length+1) (c:Nat) (hc:c<256) :
  Calls prog 92 #[K3 sp p.em f l fr,.string (ba q),.int .i64 c] w λe w'=>e=.returned (.string (ba (gg (pn x p fr) q c)))/\Below w.heap.size w w':=by
 obtain⟨A,cs,b9⟩:=ug h.sx;obtain⟨a1,n1,c1,h3⟩:=h.pc.f.shape;obtain⟨a2,n2,c2,g0⟩:=h.pc.l.shape;subst h3;subst g0;obtain⟨n,hn⟩:=zx x.sets.length;have h4:n<=64:=by rw[hn];exact h.n
 have a8:=zh hn;rw[<-hn] at b9 hq;obtain⟨iB,g7,f8,d6,e7⟩:=info_parts Tryz.infoQB;have g2:=λw0=>dv underlying30 g7 f8 d6 e7 n ω Zs w0
 have HR:=zh h;obtain⟨s,hs⟩:=zx (pn x p fr);have O:=zh hs;have c6:=h.sx.h;have f4:=(ZC c6)
 have d8:Hid (∀ W,Below w.heap.size w W->W.cell? ⟨sp,0,none⟩=some (.slice A n cs)/\W.cell? ⟨sp,1,none⟩=some vf):=λW hW=>by
  have:W.heap[sp]?=_:=(hW.block sp f4).trans c6;rw[b9] at this;exact⟨by simp[cell?,this],by simp[cell?,this]⟩
 have e6:Hid (∀(W:World) (g:Nat) (P:Nat->Bool) (c:Nat) (v:Value) (k:List Nat),Below w.heap.size w W->w.heap.size<=g->IL lo w v k->k.length<=900000000->(∀ i∈k,i<n)->Nw W g n (λx=>.bool (P x))->Calls prog 157 #[.slice (some ⟨g,0,none⟩) n c,v] W λe w'=>e=.returned (.tuple #[])/\Nw w' g n (λx=>.bool (P x||k.contains x))/\W.grownBy w' (some g)):=λW g P c v k hW hg I hk hb J=>ud (I.below hW) hk J ω (λe=>by have:=(I.lt e).2;omega) hb
 have g9:Hid (∀(W:World) (j:Nat),Below w.heap.size w W->Calls prog 159 #[.slice a2 n2 c2,.int .i64 j] W λe w'=>e=.returned (.bool (p.last.contains j))/\w'=W):=λW j hW=>Gy (h.pc.l.below hW) (η h.ll) j
 have d5:Hid (∀(W:World) (g:Nat) (P:Nat->Bool) (c:Nat) (e:Bool),g<W.heap.size->Nw W g n (λx=>.bool (P x))->Calls prog 158 #[.slice (some ⟨g,0,none⟩) n c,.bool e] W λe' w'=>e'=.returned (.string (ba (si n P e)))/\Below W.heap.size W w'):=λW g P c e hq J=>ry J ω hq e
 obtain⟨sb,b4⟩:=zx (ba q);have g5:=zh b4;have h5:sb.size=n+1:=by rw[b4,h_,hq]
 rw[<-b4];clear h hn c6 hs b4
 go_enter func92,ntmps92
 go_upto_region 1 with(fail)
 obtain⟨B,hB⟩:=zx w.heap.size;obtain⟨W1,a7⟩:=zx (w.alloc (.cells #[.pointer (some ⟨sp,0,none⟩),.bool p.em,.slice a1 n1 c1,.slice a2 n2 c2,.bool fr] 110));have c8:W1.heap[B]?=some (.cells #[.pointer (some ⟨sp,0,none⟩),.bool p.em,.slice a1 n1 c1,.slice a2 n2 c2,.bool fr] 110):=by rw[a7,hB];exact Za w _
 have b5:Hid (Below w.heap.size w W1):=by show Below _ _ _;rw[a7];exact ZA
 have g4:=zh c8;have d3:Hid (W1.heap.size=B+1/\B=w.heap.size):=⟨by rw[a7,hB];simp,hB⟩
 have q0:=(d8 W1 b5).1;obtain⟨s0,s1,s2,s3,s4⟩:=fQ c8;rw[<-a7,<-hB];clear a7 hB c8
 go_upto_region 2 with(fail)
 obtain⟨G,hG⟩:=zx W1.heap.size;obtain⟨W2,a6⟩:=zx (W1.alloc (.cells (jp n (.bool false)) 4));have e0:Hid (Below W1.heap.size W1 W2):=by show Below _ _ _;rw[a6];exact ZA
 have g1:Hid (Nw W2 G n (λy=>.bool (vK s q c 0 y))):=by show Nw _ _ _ _;rw[a6,hG];exact(Nw.new W1 n (.bool false) rfl 4).congr (λk _=>by simp[vK,GH])
 have HG:Hid (G=W1.heap.size/\W2.heap.size=G+1):=⟨hG,by rw[a6,hG];simp⟩
 have g8:=zh ((e0.block B (η d3.1)).trans g4);have f2:=zh (b5.trans (e0.mono b5.size));have e9:w.heap.size<=G:=by rw[hG];exact b5.size
 rw[<-a6,<-hG];clear a6 hG s0 s1 s2 s3 s4 q0 g2;have d4:Hid (∀ W,W2.grownBy W (some G)->Below w.heap.size w W/\W.heap[B]?=some (.cells #[.pointer (some ⟨sp,0,none⟩),.bool p.em,.slice a1 n1 c1,.slice a2 n2 c2,.bool fr] 110)/\G<W.heap.size):=λW hW=>⟨f2.trans (dQ hW (λb e=>by injection e with e;omega) f2.size),(hW.block B (ξ d3.1 HG.out) (λe=>by injection e with e;have:=d3.1;have:=HG.out;omega)).trans g8,by have:=hW.size;have:=HG.out;omega⟩
 go_wp2
 go_loopw [8,9,10] (λen i _ wr=>∃(j:Nat) (e:Bool),i=.int .i64 j/\en=.bool e/\j<=n/\e=DR s q c j/\Nw wr G n (λy=>.bool (vK s q c j y))/\W2.grownBy wr (some G)) (λ_ i _ _=>n-(intOf i).toNat)
 case atStart=>exact⟨0,false,rfl,rfl,Zk _,by simp[DR,GH],g1,⟨rfl,rfl,rfl,zq,λ_ _ _=>rfl⟩⟩
 case round=>
  obtain⟨j,e,rfl,rfl,hj,f1,J,d0⟩:=hrel;have H:=zh f1;have U:=zh J;have r:=zh d0;obtain⟨c4,d9,g3⟩:=d4 wr d0;have L:=zh c4;obtain⟨s0,s1,s2,s3,s4⟩:=fQ d9;obtain⟨q0,q1⟩:=d8 wr c4;clear f1 J d0 c4 d9
  by_cases hlt:j<n
  .have f3:(j:Int)<n:=ω;have h6:(c:Int)<256:=ω;have b6:j<x.sets.length:=by have:=a8.out;omega
   have c9:j<us.length:=by rw[HR.out.sx.ul,HR.out.fn];exact b6
   obtain⟨V,cV,hv,h0,d1⟩:=GF HR.sx b6 hc;obtain⟨F,cF,d7,g6,d2⟩:=GG HR.sx c9;rw[b9] at hv;injection hv with v1 v2 v3;subst v1;have e3:wr.cell? ⟨V,j*256+c,none⟩=some (.bool (x.sets[j] c)):=by rw[Nat.mul_comm j 256];exact(L.cell (p:=⟨V,256*j+c,none⟩) h0).trans d1
   have e4:=(L.cell (p:=⟨F,j,none⟩) g6).trans d2;rw[d7,HR.out.fn,<-a8.out] at q1;have I:=HR.sx.u j c9;obtain⟨b1,m1,k1,f0⟩:=I.shape;rw[f0] at e4 I;have c7:Hid (Calls prog 157 #[.slice (some ⟨G,0,none⟩) n n,.slice b1 m1 k1] wr λe w'=>e=.returned (.tuple #[])/\Nw w' G n (λy=>.bool (vK s q c j y||(x.fol.getD j []).contains y))/\wr.grownBy w' (some G)):=e6 wr G _ _ _ _ L e9 I (HR.lr j) (λi hi=>by rw[a8.out];exact HR.br j i hi) U;have e5:j<q.length:=ω;obtain⟨b,hb⟩:=zx (q[j]);have f7:∀ h:j<sb.size,(sb[j]'h).toNat=b.toNat:=λh=>by
    have:=g5;subst this;rw[hb];rfl
   have f9:=b.toNat_lt;have h7:(j:Int)<sb.size:=ω;have b7:q.getD j 0=b:=by rw[hb];exact getD_at e5 0
   have c3:s.sets.getD j (λ_=>false)=x.sets[j]:=by rw[O.out];exact getD_at b6 _
   obtain⟨t,ht⟩:=zx (x.sets[j] c);rw[<-ht] at e3
   have X:Hid (b≠49\/t=false->DR s q c (j+1)=DR s q c j/\∀ y,vK s q c (j+1) y=vK s q c j y):=λhh=>Ly (by
    rw[b7,c3,<-ht];rcases hh with hh|hh
    .simp[hh]
    .simp[hh])
   have b2:Hid (b=49->t=true->DR s q c (j+1)=(DR s q c j||p.last.contains j)/\∀ y,vK s q c (j+1) y=(vK s q c j y||(x.fol.getD j []).contains y)):=λh1 h2=>by
    have:=Mn (s:=s) (q:=q) (c:=c) (j:=j) (by rw[b7,c3,<-ht,h1,h2];rfl);rw[O.out] at this ⊢;exact this
   clear f0 I d1 d2 d7 v2 v3 b6 c9 e5 hb b7 c3 ht
   by_cases hb49:b=49
   .subst hb49;have f5:(((49:UInt8).toNat:Int) != 49)=false:=rfl
    cases t with
    |false=>
     have u:=zh (X (.inr rfl));clear X b2;go_wp2
     go_roundw
     case rel=>
      refine⟨j+1,e,π,rfl,ω,by rw[u.out.1];exact H,U.congr (λy _=>by rw[u.out.2]),r⟩
     case measure=>simp[intOf]<;>omega
    |true=>
     have u:=zh (b2 rfl rfl);clear X b2
     go_upto_region 8 with(go_at_call 157;refine c7.mono ?_;rintro e' w3 ⟨rfl,a3,m⟩;have a4:=zh a3;have b0:Hid (W2.grownBy w3 (some G)):=⟨m.os.trans r.os,m.tape.trans r.tape,m.output.trans r.output,Zc r.size m.size,λk hk hne=>(m.block k (Zd hk r.size) hne).trans (r.block k hk hne)⟩;clear a3 m)
     obtain⟨a5,Z,m⟩:=d4 w3 b0;clear s0 s1 s2 s3 s4 q0 q1 e3 e4 f7 f9 f5;obtain⟨s0,s1,s2,s3,s4⟩:=fQ Z;have c0:=zh (g9 w3 j a5);obtain⟨lb,f6⟩:=zx (p.last.contains j);rw[<-f6] at c0 u;clear Z a5 f6
     cases e with
     |false=>
      go_wp2_with (go_at_call 159;refine c0.mono ?_;rintro e' w4 ⟨rfl,b8⟩;obtain rfl:=b8.symm)
      go_roundw
      case rel=>exact⟨j+1,lb,π,rfl,ω,by rw[u.out.1,<-H.out];rfl,a4.congr (λy _=>by rw[u.out.2]),b0⟩
      case measure=>simp[intOf]<;>omega
     |true=>
      go_wp2_with (go_at_call 159;refine c0.mono ?_;rintro e' w4 ⟨rfl,b8⟩;obtain rfl:=b8.symm)
      go_roundw
      case rel=>exact⟨j+1,true,π,rfl,ω,by rw[u.out.1,<-H.out];rfl,a4.congr (λy _=>by rw[u.out.2]),b0⟩
      case measure=>simp[intOf]<;>omega
   .have f5:(((b.toNat:Nat):Int) != 49)=true:=by
     simp
     intro h1;exact hb49 (UInt8.toNat_inj.1 (show b.toNat=(49:UInt8).toNat from by have:(49:UInt8).toNat=49:=rfl;omega))
    have u:=zh (X (.inl hb49));clear X b2;go_wp2
    go_roundw
    case rel=>
      refine⟨j+1,e,π,rfl,ω,by rw[u.out.1];exact H,U.congr (λy _=>by rw[u.out.2]),r⟩
    case measure=>simp[intOf]<;>omega
  .have f3:¬(j:Int)<n:=ω;obtain rfl:j=n:=ω;have c7:Hid (Calls prog 157 #[.slice (some ⟨G,0,none⟩) j j,.slice a1 n1 c1] wr λe w'=>e=.returned (.tuple #[])/\Nw w' G j (λy=>.bool (vK s q c j y||p.first.contains y))/\wr.grownBy w' (some G)):=e6 wr G _ _ _ _ L e9 HR.pc.f (η HR.lf) (λi hi=>by rw[a8.out];exact HR.bf i hi) U;have Y:Hid (∀(P:Nat->Bool) (z:Bool),(∀ y,P y=(vK s q c j y||(!fr&&p.first.contains y)))->z=(DR s q c j||(!fr&&p.em))->si j P z=gg (pn x p fr) q c):=λP z h1 h2=>by
    unfold gg;rw[<-O.out];have e1:s.sets.length=j:=by rw[O.out];exact a8.symm
    have e2:s.on q c=GH s q c j:=by unfold Rs.on GH;rw[e1]
    rw[e1,e2];refine jj (λy _=>?_) ?_
    .rw[h1,O.out];rfl
    .rw[h2,O.out];rfl
   cases fr with
   |true=>
    go_wp2_with (go_at_call 158;refine(d5 wr G _ _ _ g3 U).mono ?_;rintro e' w4 ⟨rfl,C⟩;have a9:=zh C;clear C)
    go_ret
    refine⟨?_,L.trans (a9.mono L.size)⟩;rw[<-Y.out (vK s q c j) e (λy=>χ) (by rw[H.out];simp)];rfl
   |false=>
    go_upto_region 12 with(go_at_call 157;refine c7.mono ?_;rintro e' w3 ⟨rfl,a3,m⟩;have a4:=zh a3;have b0:Hid (W2.grownBy w3 (some G)):=⟨m.os.trans r.os,m.tape.trans r.tape,m.output.trans r.output,Zc r.size m.size,λk hk hne=>(m.block k (Zd hk r.size) hne).trans (r.block k hk hne)⟩;clear a3 m)
    obtain⟨a5,Z,m⟩:=d4 w3 b0;clear s0 s1 s2 s3 s4 q0 q1;obtain⟨s0,s1,s2,s3,s4⟩:=fQ Z;have b3:=zh a5;clear a5 Z
    cases e with
    |false=>
     go_wp2_with (go_at_call 158;refine(d5 w3 G _ _ _ m a4).mono ?_;rintro e' w4 ⟨rfl,C⟩;have a9:=zh C;clear C)
     go_ret
     refine⟨?_,b3.trans (a9.mono b3.size)⟩;rw[<-Y.out (λy=>vK s q c j y||decide (y∈p.first)) p.em (λy=>χ) (by rw[<-H.out];simp)];rfl
    |true=>
     go_wp2_with (go_at_call 158;refine(d5 w3 G _ _ _ m a4).mono ?_;rintro e' w4 ⟨rfl,C⟩;have a9:=zh C;clear C)
     go_ret
     refine⟨?_,b3.trans (a9.mono b3.size)⟩;rw[<-Y.out (λy=>vK s q c j y||decide (y∈p.first)) true (λy=>χ) (by rw[<-H.out];simp)];rfl
def KI (bl:List UInt8) (c:UInt8) (h:c∈bl):Lib.indexByte bl c=(bl.idxOf c:Nat):=by
 induction bl with
 |nil=>simp at h
 |cons x t ih=>
  by_cases hx:x=c
  .subst hx;simp[Lib.indexByte]
  .have ht:c∈t:=by simpa [Ne.symm hx] using h
   have he:=ih ht;simp only[Lib.indexByte,he];have:(x==c)=false:=by simpa using hx
   rw[this,idxOf_cons,this]
   simp
def GI (w:World) (g o n cp:Nat) (xs:List Int) (c:Int) (hx:xs.length=n) (hc:∀ i,i<n->w.cell? ⟨g,o+i,none⟩=some (.int .u8 (xs.getD i 0))):(callFunc 145 #[.slice (some ⟨g,o,none⟩) n cp,.int .u8 c]).run prog w=.ok (.value (.int .i64 (Lib.indexByte (Lib.bytesOf xs) c.toNat.toUInt8))) w:=by
 rw[run_callFunc_extern func145 κ κ κ (e:=Extern.BytealgIndexByte.indexByte) κ,Lib.run_indexByteSlice w g o n cp xs hx hc c];rfl
variable (w vb bl) in
def xU (c:UInt8) (h:aS fy w vb bl) (hc:c∈bl) :
  Calls prog 84 #[vb,.int .u8 c.toNat] w λe w'=>e=.returned (.int .i64 (bl.idxOf c:Nat))/\w'=w:=by
 obtain⟨g,o,cp,rfl,l⟩:=h.nonnil (length_pos_of_mem hc);have hb:Lib.bytesOf (bl.map λx=>(x.toNat:Int))=bl:=by
  unfold Lib.bytesOf;rw[map_map]
  conv=>rhs;rw[<-map_id bl]
  apply map_congr_left;intro x _
  simp
 have hr:=GI w g o bl.length cp (bl.map λx=>(x.toNat:Int)) c.toNat χ (λi hi=>by
  rw[l i hi]
  simp[fy,getD_eq_getElem?_getD,hi])
 rw[hb,show((c.toNat:Int).toNat.toUInt8)=c by simp,KI bl c hc] at hr
 go_enter func84,ntmps84
 go_wp2
 go_ret
 exact⟨rfl,rfl⟩
abbrev LS:=@SI UInt8 5 1 fy
def tC (f b:Bool) (cls:List UInt8) (va vn:Value):Array Value:=#[.bool f,.bool b,.int .i64 0,.string (ba cls),va,vn]
structure mw (w:World) (t:Tn) (va vn:Value) (w2 w0:World) (vb vo:Value) (bl:List UInt8) (olds:List Nat) (cls:List UInt8):Prop where
 bw:Below w.heap.size w w2
 bt:Below w2.heap.size w2 w0
 s2:w.heap.size+2<=w2.heap.size
 box:w2.heap[w.heap.size]?=some (.cells (tC t.front t.back (t.cls.map UInt8.ofNat) va vn) 33)
 res:w2.heap[w.heap.size+1]?=some (.cells #[.bool false,.bool false,.int .i64 0,.string ⟨#[]⟩,.slice none 0 0,.slice none 0 0] 33)
 row:aS fy w2 vb bl
 acc:aS eB w2 va t.acc
 nx:fV eI w2 vn (xo t.next)
 tb:w0.heap[w2.heap.size]?=some (.cells (tC t.front t.back cls (.slice none 0 0) (.slice none 0 0)) 33)
 ol:∃ base,w2.heap.size<base/\w0.ownsRow base 3 1 vo olds.length (olds.map eN)
section
variable {w:World}{t:Tn}{va vn:Value}{w2 w0:World}{vb vo:Value}{bl:List UInt8}{olds:List Nat}{cls:List UInt8}
def mw.lt (h:mw w t va vn w2 w0 vb vo bl olds cls):w2.heap.size<w0.heap.size:=(ZC h.tb)
def mw.low (h:mw w t va vn w2 w0 vb vo bl olds cls)  (hx:cd (λb=>b=w2.heap.size) w0 W):Below w2.heap.size w2 W:=by
 have h1:=h.lt;exact⟨hx.os.trans h.bt.os,hx.tape.trans h.bt.tape,hx.output.trans h.bt.output,Zc h.bt.size hx.size,λb hb=>(hx.block b ω ω).trans (h.bt.block b hb)⟩
def mw.keep (h:mw w t va vn w2 w0 vb vo bl olds cls)  (hx:cd (λb=>b=w2.heap.size) w0 W) :
  W.heap[w.heap.size]?=some (.cells (tC t.front t.back (t.cls.map UInt8.ofNat) va vn) 33)/\aS fy W vb bl/\aS eB W va t.acc/\fV eI W vn (xo t.next)/\aS eN W vo olds:=by
 have hb:=h.low hx;have h2:=h.s2;obtain⟨base,e,ho⟩:=h.ol;exact⟨(hb.block _ ω).trans h.box,h.row.below hb,h.acc.below hb,h.nx.below hb,fM (ak ho (λb hb=>hx.block b (de ho hb) (η (cH ho hb))))⟩
def mw.first (h:mw w t va vn w2 w0 vb vo bl olds cls)  (K:Nat) (hn:av 5 1 W (w0.heap.size+1) w0.heap.size (.slice none 0 0) [] 0) (hb:Below w0.heap.size w0 W):LS w0 w2.heap.size K W (.slice none 0 0) (.slice none 0 0) (.slice none 0 0) [] 0 [] [] []:=by
 have h1:=h.lt;have et:=hb.block _ h1;refine⟨hn,λg hg=>by simp[Value.ownBlock] at hg,?_,Zn _ _ _ _,?_,Zn _ _ _ _,rfl,λj h1=>by simp at h1,λo _ _=>by simp[cell?,et],λo=>?_,cd.of_below _ hb,h1,Zr,Zr,Zr⟩
 .simp[cell?,et,h.tb,tC]
 .simp[cell?,et,h.tb,tC]
 .simp[frozen?,et,h.tb]
end
def SI.tab {w0:World}{tb K:Nat}{met:List UInt8}{acc:List Bool}{gs:List Nat} (h:LS w0 tb K W v va vn met tk acc rows gs)  (hk:∀ b,w0.heap.size<=b->W'.heap[b]?=W.heap[b]?):aS eB W' va acc/\fV eI W' vn (xo rows):=by
 refine⟨fM (ak h.ar (λb hb=>hk b (η (cH h.ar hb)))),gs.map (jH K),by rw[length_map,ie,h.gl],fM (base:=w0.heap.size+2) (e:=40) ?_,λj h1 h2=>?_⟩
 .have:=ak (w':=W') h.nr (λb hb=>hk b (η (cH h.nr hb)))
  simpa using this
 .have m:j<gs.length:=by simpa using h1
  have l:j<rows.length:=by simpa [xo] using h2
  obtain⟨q1,q2,q3⟩:=h.rw j m l;rw[qJ rows j l,getElem_map];refine rA (.inr ⟨gs[j],0,K,by rw[q3];rfl,λi hi=>?_⟩);have e:=(hk gs[j] ω).trans q1;simp[cell?,e,hi]
def Lz (a:Act) (k:Nat):Nat:=match a.tmps.getD k undef with|.pointer (some p)=>p.block|_=>0
open Go.RowKit
theorem Hr.below {w w':World}{f l:Value} (h:Hr lo w sp x p vs vf us f l) (b:Below w.heap.size w w'):Hr lo w' sp x p vs vf us f l:=
 ⟨h.sx.below b,h.pc.below b,Zc h.lw b.size,h.n,h.fn,h.bf,h.br,h.lf,h.ll,h.lr⟩
def sV (q:List UInt8):Value:=.string (ba q)
def nL (f:Nat->Nat):List Value:=((List.range 256).map f).map lO
theorem jI (f:Nat->Nat):(nL f).length=256:=by simp[nL]
variable (f i) in
def jJ (h:i<256):(nL f)[i]?=some (lO (f i)):=by simp[nL,h]
theorem AL (f:Nat->Nat) (c v:Nat):(nL f).toArray.setIfInBounds c (lO v)=(nL (λi=>if i=c then v else f i)).toArray:=by
 apply Array.ext_getElem?;intro i;rw[Array.getElem?_setIfInBounds];simp only[getElem?_toArray,size_toArray,jI]
 by_cases hi:i<256
 .rw[jJ _ i hi,jJ _ i hi]
  by_cases e:c=i
  .subst e;simp[hi]
  .rw[Zh e];simp[show ¬ i=c from λq=>e q.symm]
 .have h0:∀ g:Nat->Nat,(nL g)[i]?=none:=λg=>getElem?_eq_none (by rw[jI];omega)
  rw[h0,h0]
  by_cases e:c=i
  .rw[Zi e,Zh ω]
  .rw[Zh e]
def Tryz.infoNI:(prog.info? 190).map (λi=>(i.zero,i.size,i.bytes))=some (some (.agg (nL λ_=>0).toArray),256,2048):=κ
def Tryz.infoNS:(prog.info? 9).map (λi=>(i.zero,i.size,i.bytes))=some (some (.string (ba [])),1,16):=κ
structure SA (w wq:World) (bx:Array Value) (va vn:Value) (met:List (List UInt8)) (rows:List (List Nat)):Prop where
 f:Below w.heap.size w wq
 a:wq.ownsRow w.heap.size 9 1 va met.length (met.map sV)
 n:wq.ownsRow w.heap.size 190 256 vn rows.length (rows.flatMap λr=>r.map lO)
 b:wq.heap[w.heap.size]?=some (.cells bx 110)
structure RW (w wq:World) (R:Nat) (f:Nat->Nat) (vn:Value):Prop where
 h:wq.heap[R]?=some (.cells (nL f).toArray 190)
 n:vn.ownBlock≠some R
 l:w.heap.size<=R
section
variable {w wq wr w1:World}{bx:Array Value}{va vn va' vn':Value}{met:List (List UInt8)}{rows:List (List Nat)}{R:Nat}{f:Nat->Nat}
def SA.below (h:SA w wq bx va vn met rows) (g:Below wq.heap.size wq wr):SA w wr bx va vn met rows:=
 ⟨h.f.trans (g.mono h.f.size),ak h.a (λb e=>g.block b (h.a.lt b e).2),ak h.n (λb e=>g.block b (h.n.lt b e).2),(g.block _ (ZC h.b)).trans h.b⟩
def RW.below (h:RW w wq R f vn) (g:Below wq.heap.size wq wr):RW w wr R f vn:=⟨(g.block _ (ZC h.h)).trans h.h,h.n,h.l⟩
theorem RW.cell (h:RW w wq R f vn)  (hc:c<256):wq.cell? ⟨R,c,none⟩=some (lO (f c)):=by
 simp only[cell?,h.h]
 simpa using jJ f c hc
def RW.fz (h:RW w wq R f vn) (c:Nat):wq.frozen? ⟨R,c,none⟩=false:=by simp[frozen?,h.h]
def RW.set (h:RW w wq R f vn) (c v:Nat):RW w (wq.setCell ⟨R,c,none⟩ (lO v)) R (λi=>if i=c then v else f i) vn:=
 ⟨by rw[ap h.h,AL],h.n,h.l⟩
def SA.set (h:SA w wq bx va vn met rows) (g:RW w wq R f vn) (c:Nat) (v:Value):SA w (wq.setCell ⟨R,c,none⟩ v) bx va vn met rows:=
 ⟨h.f.setCell (p:=⟨R,c,none⟩) g.l _,ak h.a (λb e=>ah _ _ _ _ (by
  obtain⟨cs,q⟩:=az h.a e
  exact aU q g.h Zr)),ak h.n (λb e=>ah _ _ _ _ (λq=>g.n (by rw[<-q];exact e))),by rw[ah _ _ _ _ (aU h.b g.h Zr)];exact h.b⟩
def SA.growA (h:SA w wq bx va vn met rows) (hb:Below wq.heap.size wq w1)  (ho:wr.ownsRow w.heap.size 9 1 va' (met.length+1) (met.map sV++[sV t])) (hg:w1.grownBy wr va.ownBlock) :
  SA w wr bx va' vn (met++[t]) rows/\(RW w wq R f vn->RW w wr R f vn):=by
 have l:=hb.size;have hk:∀ b,b<wq.heap.size->va.ownBlock≠some b->wr.heap[b]?=wq.heap[b]?:=λb q ne=>(hg.block b ω (λe=>ne e.symm)).trans (hb.block b q)
 refine⟨⟨h.f.trans ((hb.mono h.f.size).trans (dQ hg (λb e=>(h.a.lt b e).1) (Zc h.f.size l))),by simpa using ho,ak h.n (λb e=>hk b (h.n.lt b e).2 (λe2=>?_)),(hk _ (ZC h.b) (λe2=>?_)).trans h.b⟩,λg=>⟨(hk _ (ZC g.h) (λe2=>?_)).trans g.h,g.n,g.l⟩⟩
 .obtain⟨c1,q1⟩:=az h.a e2;obtain⟨c2,q2⟩:=az h.n e;exact aU q1 q2 Zr rfl
 .obtain⟨c1,q1⟩:=az h.a e2;exact aU q1 h.b Zr rfl
 .obtain⟨c1,q1⟩:=az h.a e2;exact aU q1 g.h Zr rfl
def SA.growN (h:SA w wq bx va vn met rows) (hb:Below wq.heap.size wq w1) {r:List Nat} (ho:wr.ownsRow w.heap.size 190 256 vn' (rows.length+1) ((rows.flatMap λr=>r.map lO)++r.map lO)) (hg:w1.grownBy wr vn.ownBlock):SA w wr bx va vn' met (rows++[r]):=by
 have l:=hb.size;have hk:∀ b,b<wq.heap.size->vn.ownBlock≠some b->wr.heap[b]?=wq.heap[b]?:=λb q ne=>(hg.block b ω (λe=>ne e.symm)).trans (hb.block b q)
 refine⟨h.f.trans ((hb.mono h.f.size).trans (dQ hg (λb e=>(h.n.lt b e).1) (Zc h.f.size l))),ak h.a (λb e=>hk b (h.a.lt b e).2 (λe2=>?_)),by simpa using ho,(hk _ (ZC h.b) (λe2=>?_)).trans h.b⟩
 .obtain⟨c1,q1⟩:=az h.a e;obtain⟨c2,q2⟩:=az h.n e2;exact aU q1 q2 Zr rfl
 .obtain⟨c1,q1⟩:=az h.n e2;exact aU q1 h.b Zr rfl
theorem SA.at (h:SA w wq bx va vn met rows)  (hj:j<met.length):∃ G e,va=.slice (some ⟨G,0,none⟩) met.length e/\met.length<=e/\wq.cell? ⟨G,j,none⟩=some (sV met[j]):=by
 rcases h.a.2 with⟨h1,h2⟩|⟨G,e,l,hv,_,hg,m,r,u,ht⟩
 .omega
 .refine⟨G,e,hv,m,?_⟩;have h3:l.toList[j]?=some (sV met[j]):=by
   have h4:(l.toList.take (met.length*1))[j]?=some (sV met[j]):=by rw[ht];simp[hj]
   rwa [getElem?_take_of_lt ω] at h4
  simp[cell?,hg]
  simpa using h3
end
section
variable {ops:Array Oper}{rest:List Oper}{o:Oper}{a:Act}{w:World}{Q:Exit->Act->World->Prop}
def oh (hg:o.guard=none) (s x:Operand) (hop:o.op=Op.call {callee:=Callee.builtin Builtin.append,args:=#[s,x],argTypes:=#[57,57]}) {lo q n:Nat} (hs:a.eval s=v) (hx:a.eval x=.slice (some ⟨q,0,none⟩) 1 1) (hown:w.ownsRow lo 9 1 v n us) (hq:w.heap[q]?=some (.cells #[sV t] 9)) (hn:n<=1000) (hlo:lo<=w.heap.size)
  (h:∀ v' w',w'.ownsRow lo 9 1 v' (n+1) (us++[sV t])->w.grownBy w' v.ownBlock->(v'.ownBlock=v.ownBlock\/v'.ownBlock=some w.heap.size)->wpList prog ops Q rest (a.put o.dst v') w') :
  wpList prog ops Q (o::rest) a w:=by
 obtain⟨i,hi,l,m,e⟩:=info_parts Tryz.infoNS;refine wpList_append_own_at w hg s x _ hop lo _ i _ 1 16 underlying57 hi l m e rfl Zr v n us hs hown ⟨q,0,none⟩ 1 1 [sV t] hx rfl (λj u hj=>?_) (λu hu=>?_) Zs ω hlo (λv' w' h1 h2 _ h4=>h v' w' h1 h2 h4)
 .match j,hj with
  |0,hj=>simp at hj;subst hj;simp[Addr.add,cell?,hq]
 .simp at hu;subst hu;rfl
def oi (hg:o.guard=none) (s x:Operand) (hop:o.op=Op.call {callee:=Callee.builtin Builtin.append,args:=#[s,x],argTypes:=#[112,112]}) {lo q n:Nat} (hs:a.eval s=v) (hx:a.eval x=.slice (some ⟨q,0,none⟩) 1 1) (hown:w.ownsRow lo 190 256 v n us) (hq:w.heap[q]?=some (.cells (nL f).toArray 190)) (hn:n<=1000) (hlo:lo<=w.heap.size)
  (h:∀ v' w',w'.ownsRow lo 190 256 v' (n+1) (us++nL f)->w.grownBy w' v.ownBlock->(v'.ownBlock=v.ownBlock\/v'.ownBlock=some w.heap.size)->wpList prog ops Q rest (a.put o.dst v') w') :
  wpList prog ops Q (o::rest) a w:=by
 obtain⟨i,hi,l,m,e⟩:=info_parts Tryz.infoNI;refine wpList_append_own_at w hg s x _ hop lo _ i _ 256 2048 underlying112 hi l m e (by simp[Value.cells,jI]) Zr v n us hs hown ⟨q,0,none⟩ 1 1 (nL f) hx (by rw[jI]) (λj u hj=>?_) (λu hu=>?_) Zs ω hlo (λv' w' h1 h2 _ h4=>h v' w' h1 h2 h4)
 .rw[Addr.add_mid];simp only[cell?,hq,Nat.zero_add]
  simpa using hj
 .unfold nL at hu;obtain⟨k,_,rfl⟩:=mem_map.1 hu;rfl
def ed (hg:o.guard=none) (ho:o.op=.alloc 190) (dst:Option Tmp) (hdst:o.dst=dst) (N:Nat) (hN:w.heap.size=N)
  (h:wpList prog ops Q rest (a.put dst (.pointer (some ⟨N,0,none⟩))) (w.alloc (.cells (nL λ_=>0).toArray 190))):wpList prog ops Q (o::rest) a w:=by
 obtain⟨i0,hi,l,r,m⟩:=info_parts Tryz.infoNI;refine Great.wpList_runTo hg dst hdst _ _ ?_ h;subst hN;unfold execOp;simp only[ho,Instr.alloc,zeroValue,newVar,newRow,Sem.run_bind,run_newObj_alloc,Sem.run_pure,Result.andThen_ok];have e:(typeInfo 190).run prog w=.ok i0 w:=by unfold typeInfo;simp[hi]
 rw[e];simp[l,Value.cells]
def rD (hg:o.guard=none) (y:Operand) (hop:o.op=.load 190 y)  (hy:a.eval y=.pointer (some ⟨g,0,none⟩)) (hc:w.heap[g]?=some (.cells (nL f).toArray 190)) (h:wpList prog ops Q rest (a.put o.dst (.agg (nL f).toArray)) w):wpList prog ops Q (o::rest) a w:=by
 refine wpList_load_mid hg _ y hop g 0 hy (nL f) _ (λj v hj=>?_) underlying190 rfl ?_ h
 .simp only[cell?,hc,Nat.zero_add]
  simpa using hj
 .rw[jI];obtain⟨i,hi,m,e,l⟩:=info_parts Tryz.infoNI;rw[hi,Option.map_some,e]
def po (hg:o.guard=none) (y:Operand) (hop:o.op=.buildSlice 112 1 #[(0,y)])  (hy:a.eval y=.agg (nL f).toArray) (h:wpList prog ops Q rest (a.put o.dst (.slice (some ⟨w.heap.size,0,none⟩) 1 1)) (w.alloc (.cells (nL f).toArray 190))):wpList prog ops Q (o::rest) a w:=by
 obtain⟨i,hi,l,e,m⟩:=info_parts Tryz.infoNI;refine wpList_buildSlice hg _ _ 1 #[(0,y)] hop (nL f).toArray i _ underlying112 hi l (by rw[e];decide) (by rw[e];decide) ?_ h;rw[e];have hf:=Great.fill_whole (s:=256) Zr [Value.agg (nL f).toArray] ((Array.range (1*256)).map ((Value.agg (nL λ_=>0).toArray).cells[·%(Value.agg (nL λ_=>0).toArray).cells.size]!)) (λv hv=>by simp at hv;subst hv;simp[Value.cells,jI]) χ
 simpa [hy,Value.cells] using hf
end
open Go.RowKit
section
variable {α:Type} [DecidableEq α]
theorem io:∀ {m:List α}{t:α}{j:Nat},(∀ k (hk:k<m.length),k<j->m[k]≠t)->(j=m.length\/∃ h:j<m.length,m[j]=t)->j=bU m t
 |[],t,j,h,he=>by
  rcases he with he|⟨q,_⟩
  .have:j=0:=by simpa using he
   rw[this];rfl
  .simp at q
 |a::m,t,0,h,he=>by grind [bU]
 |a::m,t,j+1,h,he=>by
  have h0:=h 0 χ ω;have e0:bU (a::m) t=bU m t+1:=by grind [bU]
  rw[e0,<-io (m:=m) (t:=t) (j:=j) (λk hk hj=>by have:=h (k+1) (by simpa using hk) ω;rwa [getElem_cons_succ] at this) (by
   rcases he with he|⟨q,e⟩
   .simp_all
   .exact .inr ⟨by simpa using q,by rwa [getElem_cons_succ] at e⟩)]
def xV {m:List α}{t:α} (h:m.length=bU m t):aq m t=m++[t]/\bU (aq m t) t=m.length:=by grind [bU,aq,jx]
def xW {m:List α}{t:α} (h:bU m t<m.length):aq m t=m/\bU (aq m t) t=bU m t:=by grind [bU,aq]
end
def oj {e:TypeId}{size:Nat}{xs:List Value} (h:w.ownsRow base e size v n xs):∃ A l,v=.slice A n l/\n<=l:=by
 rcases h.2 with⟨h1,h2⟩|⟨g,l,m,hv,_,_,q,_⟩
 .simp_all
 .grind
def gN (w:World):Below w.heap.size w w.drew:=ZB.drew
def jW (s:Rs) (met:List (List UInt8)) (q:List UInt8) (k:Nat):List (List UInt8):=ai met ((List.range k).map (gg s q))
variable (s met q k) in
theorem kQ:jW s met q (k+1)=aq (jW s met q k) (gg s q k):=by
 unfold jW;rw[range_succ,map_append,cO];rfl
theorem vN (s:Rs) (met:List (List UInt8)) (q:List UInt8) (k:Nat):∀ d,jW s met q k <+: jW s met q (k+d)
 |0=>prefix_refl _
 |d+1=>(vN s met q k d).trans (by rw[show k+(d+1)=k+d+1 by omega,kQ];exact lu _ _)
variable (s met q) in
def I0 (hc:c<K):bU (jW s met q K) (gg s q c)=bU (aq (jW s met q c) (gg s q c)) (gg s q c):=by
 rw[<-kQ];have:=vN s met q (c+1) (K-(c+1));rw[show c+1+(K-(c+1))=K by omega] at this;exact lv this (by rw[kQ];exact f_.2 (.inr rfl))
def B7 (s:Rs) (met:List (List UInt8)) (q:List UInt8) (c:Nat):Nat:=bU (jW s met q 256) (gg s q c)
variable (s met q) in
def GJ (hc:c<256):B7 s met q c=bU (aq (jW s met q c) (gg s q c)) (gg s q c):=I0 s met q hc
def I1 (hN:N=s.sets.length+1) (hm:∀ y∈met,y.length=N):∀ y∈jW s met q k,y.length=N:=λy hy=>by
 rcases aH.1 hy with h|h
 .exact hm y h
 .grind [gg,jB]
def DT (h:bG (gg s) (List.range K) limit (202-tk) met tk rows=R) (ht:tk<=200) (hq:met[tk]?=some q):(if limit<(jW s met q K).length then none else bG (gg s) (List.range K) limit (202-(tk+1)) (jW s met q K) (tk+1) (rows++[(List.range K).map λc=>bU (jW s met q K) (gg s q c)]))=R:=by
 obtain⟨fu,h1,h2⟩:∃ fu,202-tk=fu+1/\202-(tk+1)=fu:=⟨202-(tk+1),ω,rfl⟩
 rw[h1] at h;rw[h2];simp only[bG,hq] at h;have e:((List.range K).map λc=>bU (jW s met q K) (gg s q c))=((List.range K).map (gg s q)).map (bU (jW s met q K)):=by rw[map_map];rfl
 rw[e];exact h
def GK (h:bG (gg s) (List.range K) limit (202-tk) met tk rows=R) (ht:tk<=200) (hq:tk=met.length):R=some (met,rows):=by
 obtain⟨fu,h1⟩:∃ fu,202-tk=fu+1:=⟨202-(tk+1),ω⟩
 rw[h1] at h;rw[<-h];simp only[bG,getElem?_eq_none (show met.length<=tk by omega)]
def yI (f:Nat->Nat) (k:Nat) (i:Nat):Nat:=if i<k then f i else 0
def xX (f:Nat->Nat) (k v:Nat) (h:v=f k):(λi=>if i=k then v else yI f k i)=yI f (k+1):=by grind [yI]
variable (f K) in
def LA:((List.range K).map (yI f K)).map lO=((List.range K).map f).map lO:=by
 congr 1
 exact map_congr_left (λi hi=>by unfold yI;rw[Zi (mem_range.1 hi)])
theorem B9 (f:Nat->Nat):nL (yI f 256)=((List.range 256).map f).map lO:=LA f 256
def xY {f l:Value} (h:Hr lo w sp x p vs vf us f l) (fr:Bool) (limit:Nat) (hl:1<=limit/\limit<=200) (R0:Option (List (List UInt8)×List (List Nat))) (hR:R0=iP (pn x p fr) limit) :
  Calls prog 48 #[K3 sp p.em f l fr,.int .i64 (limit:Nat)] w λe w'=>Below w.heap.size w w'/\((R0=none/\e=.returned (.tuple #[.slice none 0 0,.slice none 0 0]))\/∃ X va vn bx,R0=some X/\e=.returned (.tuple #[va,vn])/\SA w w' bx va vn X.1 X.2):=by
 obtain⟨a1,n1,c1,h9⟩:=h.pc.f.shape;obtain⟨a2,n2,c2,g3⟩:=h.pc.l.shape;subst h9;subst g3;obtain⟨s,hs⟩:=zx (pn x p fr);obtain⟨em,a6⟩:=zx p.em;have d6:s.sets.length=x.sets.length:=by rw[hs];rfl
 have b6:Hid (∀ W,Below w.heap.size w W->Calls prog 91 #[K3 sp em (.slice a1 n1 c1) (.slice a2 n2 c2) fr] W λe w'=>e=.returned (.string (ba (nV s)))/\Below W.heap.size W w'):=λW b=>by rw[hs,a6];exact AK (h.below b) fr
 have c7:Hid (∀ W q c,Below w.heap.size w W->q.length=s.sets.length+1->c<256->Calls prog 92 #[K3 sp em (.slice a1 n1 c1) (.slice a2 n2 c2) fr,.string (ba q),.int .i64 (c:Nat)] W λe w'=>e=.returned (.string (ba (gg s q c)))/\Below W.heap.size W w'):=λW q c b hq hc=>by rw[hs,a6];exact DS (h.below b) fr q (by rw[<-d6];exact hq) c hc
 have g1:Hid (R0=iP s limit):=by rw[hs];exact hR
 have g0:=zh hl;rw[<-a6];clear h hR hs a6 d6 hl
 go_enter func48,ntmps48
 go_upto_region 1 with(fail)
 obtain⟨B,hB⟩:=zx w.heap.size;obtain⟨bx,b9⟩:=zx (#[Value.pointer (some ⟨sp,0,none⟩),.bool em,.slice a1 n1 c1,.slice a2 n2 c2,.bool fr]);obtain⟨W1,b0⟩:=zx (w.alloc (.cells #[.pointer (some ⟨sp,0,none⟩),.bool em,.slice a1 n1 c1,.slice a2 n2 c2,.bool fr] 110));have a8:Hid (W1.heap[w.heap.size]?=some (.cells bx 110)):=by show _=_;rw[b0,b9];exact Za w _
 have Z:Hid (Below w.heap.size w W1):=by show Below _ _ _;rw[b0];exact ZA
 have c4:Hid (∀ W:World,W.heap[w.heap.size]?=some (.cells bx 110)->W.cell? ⟨B,0,none⟩=some (.pointer (some ⟨sp,0,none⟩))/\W.cell? ⟨B,1,none⟩=some (.bool em)/\W.cell? ⟨B,2,none⟩=some (.slice a1 n1 c1)/\W.cell? ⟨B,3,none⟩=some (.slice a2 n2 c2)/\W.cell? ⟨B,4,none⟩=some (.bool fr)):=λW hW=>by rw[hB];rw[b9] at hW;exact fQ hW
 rw[<-b0,<-hB];obtain⟨s0,s1,s2,s3,s4⟩:=c4.out W1 a8.out;clear b0 b9;have i7:=zh hB;clear hB
 go_upto_region 2 with(go_at_call 91;refine(b6.out W1 Z.out).mono ?_;rintro e w2 ⟨rfl,d9⟩;have a7:=zh d9;clear d9)
 obtain⟨W3,b3⟩:=zx (w2.alloc (.cells #[.string (ba (nV s))] 9));obtain⟨G3,a9⟩:=zx w2.heap.size;have g7:Hid (SA w W3 bx (.slice (some ⟨G3,0,none⟩) 1 1) (.slice none 0 0) [nV s] []):=by
  have e7:=Zc Z.out.size a7.out.size;have e4:Below w2.heap.size w2 W3:=by rw[b3];exact ZA
  have d0:=(a7.out.block _ (ZC a8.out)).trans a8.out;exact⟨(Z.out.trans (a7.out.mono Z.out.size)).trans (e4.mono e7),⟨χ,.inr ⟨G3,1,#[.string (ba (nV s))],χ,by rw[a9];exact e7,by rw[b3,a9];exact Za w2 _,χ,by unfold maxLen;decide,χ,by simp[sV]⟩⟩,Zn _ _ _ _,(e4.block _ (ZC d0)).trans d0⟩
 rw[<-b3,<-a9];clear b3 a9 s0 s1 s2 s3 s4 a8 Z a7 b6;have i5:=g0.out;go_wp2
 go_loopw [6,7,8,9,10,11,12] (λva vn i _ _ _ _ wq=>∃(tk L:Nat) (met:List (List UInt8)) (rows:List (List Nat)) (A A2:Option Addr) (a4 u:Nat),va=.slice A L a4/\vn=.slice A2 tk u/\i=.int .i64 tk/\L=met.length/\L<=a4/\tk<=L/\L<=limit/\rows.length=tk/\(∀ q∈met,q.length=s.sets.length+1)/\bG (gg s) (List.range 256) limit (202-tk) met tk rows=R0/\SA w wq bx va vn met rows) (λ_ _ i _ _ _ _ _=>201-(intOf i).toNat)
 case atStart=>
  refine⟨0,1,[nV s],[],some ⟨G3,0,none⟩,none,1,0,rfl,rfl,rfl,rfl,ω,ω,ω,rfl,λq hq=>?_,g1.out.symm,g7.out⟩;rw[mem_singleton] at hq;subst hq;unfold nV;exact jB _ _ _
 case round=>
  obtain⟨tk,L,met,rows,A,A2,a4,u,rfl,rfl,rfl,hL,d3,i9,h4,d8,f2,d5,V⟩:=hrel;have U:=zh V;have c9:=zh d5;have d2:=zh f2;have HL:Hid (L=met.length/\rows.length=tk):=⟨hL,d8⟩
  clear hL d8 f2 d5 V
  by_cases hlt:tk<L
  .have f7:(tk:Int)<L:=ω;have h0:tk<met.length:=by rw[<-HL.out.1];exact hlt
   obtain⟨q,hq⟩:=zx (met[tk]);have f8:=DT (K:=256) c9.out ω (q:=q) (by rw[hq];exact Zj h0);have e6:Hid _:=f8;have f9:Hid (q=met[tk]/\q.length=s.sets.length+1):=⟨hq,by rw[hq];exact d2.out _ (Zg _)⟩
   clear f8 hq c9
   go_upto_region 7 with(refine ed rfl rfl _ rfl wr.heap.size rfl ?_)
   obtain⟨W5,b1⟩:=zx (wr.alloc (.cells (nL λ_=>0).toArray 190));obtain⟨R,hR⟩:=zx wr.heap.size;have f6:Below wr.heap.size wr W5:=by rw[b1];exact ZA
   have g8:=zh (U.out.below f6);have h5:Hid (RW w W5 R (yI (B7 s met q) 0) (.slice A2 tk u)):=⟨by rw[b1,hR];exact Za wr _,λe=>by have:=(U.out.n.lt _ e).2;omega,by rw[hR];exact U.out.f.size⟩
   rw[<-b1,<-hR];have j0:Hid (wr.heap.size<=R):=by show _<=_;omega
   clear b1 hR f6
   rename World=>wo
   go_wp2
   go_loopw [6,10,11,12] (λva c _ _ wq=>∃(k L':Nat) (A':Option Addr) (F:Nat),va=.slice A' L' F/\L'=(jW s met q k).length/\L'<=F/\c=.int .i64 k/\k<=256/\L<=L'/\L'<=limit/\SA w wq bx va (.slice A2 tk u) (jW s met q k) rows/\RW w wq R (yI (B7 s met q) k) (.slice A2 tk u)) (λ_ c _ _ _=>256-(intOf c).toNat)
   case atStart=>exact⟨0,L,A,a4,rfl,HL.out.1,d3,rfl,ω,ω,h4,g8.out,h5.out⟩
   case round=>
    obtain⟨k,L',A',F,rfl,f1,a3,rfl,hk,i8,f3,V,e5⟩:=hrel;have H:=zh V;have c8:=zh e5;have C:=zh f1;clear V e5 f1
    by_cases hk256:k<256
    .have g9:(k:Int)<256:=ω;have f0:tk<(jW s met q k).length:=by rw[<-C.out];omega
     obtain⟨G,cG,Y,c6,z⟩:=H.out.at f0;rw[<-C.out] at Y;injection Y with e1 e2 e3;subst e1 e3;have f5:(jW s met q k)[tk]=q:=by
      have a5:=fj met ((List.range k).map (gg s q));obtain⟨r,hr⟩:=a5;have h1:(jW s met q k)[tk]?=some q:=by
       unfold jW;rw[<-hr,Zo (by rw[<-HL.out.1];exact hlt),f9.out.1];exact Zj _
      rw[Zj f0] at h1;injection h1
     rw[f5] at z;have u0:wr.cell? ⟨G,tk,none⟩=some (.string (ba q)):=z;obtain⟨s0,s1,s2,s3,s4⟩:=c4.out wr H.out.b;have i4:(tk:Int)<L':=ω;have f4:=H.out.f.trans ((gN wr).mono H.out.f.size);have d4:=zh f4;clear z f5 e2 f4
     go_upto_region 10 with(fail)
     go_region_held3 (λw':World=>w'.cell? ⟨B,0,none⟩=some (.pointer (some ⟨sp,0,none⟩))/\w'.cell? ⟨B,1,none⟩=some (.bool em)/\w'.cell? ⟨B,2,none⟩=some (.slice a1 n1 c1)/\w'.cell? ⟨B,3,none⟩=some (.slice a2 n2 c2)/\w'.cell? ⟨B,4,none⟩=some (.bool fr)/\w'.cell? ⟨G,tk,none⟩=some (.string (ba q))) (first|exact⟨s0,s1,s2,s3,s4,u0⟩|exact⟨r0,r1,r2,r3,r4,r5⟩) ((go_at_call 92;refine(c7.out wr.drew q k d4.out f9.out.2 hk256).mono ?_;rintro e w6 ⟨rfl,e9⟩;have O:=zh ((gN wr).trans e9);obtain⟨r0,r1,r2,r3,r4⟩:=c4.out w6 (H.out.below O.out).b;have r5:=(O.out.cell (p:=⟨G,tk,none⟩) (aF u0)).trans u0;clear e9))
     have P:=zh (H.out.below O.out);have J:=zh (c8.out.below O.out);obtain⟨t,ht⟩:=zx (gg s q k);have HT:=zh ht;rw[<-ht];clear ht s0 s1 s2 s3 s4 u0 H c8 O d4
     rename World=>wo
     clear r0 r1 r2 r3 r4 r5 c6;go_wp2
     go_loopw [12] (λa wq=>∃ j:Nat,a=.int .i64 j/\j<=L'/\wq=wo/\∀ i (hi:i<(jW s met q k).length),i<j->(jW s met q k)[i]≠t) (λa _=>L' - (intOf a).toNat)
     case atStart=>exact⟨0,rfl,Zk _,rfl,λi _ h=>ω⟩
     case round=>
      obtain⟨j,rfl,hj,rfl,d1⟩:=hrel;have c3:=zh d1;clear d1
      by_cases hjl:j<L'
      .have i2:(j:Int)<L':=ω;have b8:j<(jW s met q k).length:=by rw[<-C.out];exact hjl
       obtain⟨G',cG,Y,c6,z⟩:=P.out.at b8;rw[<-C.out] at Y;injection Y with e1 e2 e3;injection e1 with e1;injection e1 with e1;subst e1 e3;obtain⟨y,hy⟩:=zx ((jW s met q k)[j]);rw[<-hy] at z;have u0:wr.cell? ⟨G,j,none⟩=some (.string (ba y)):=z;have HY:=zh hy;clear z hy e2 c6
       by_cases hyt:y=t
       .have g2:(y==t)=true:=by simp[hyt]
        have b2:=zh (io c3.out (.inr ⟨b8,by rw[<-HY.out];exact hyt⟩));have HP:Hid (jW s met q (k+1)=jW s met q k/\j=B7 s met q k):=by
         have h1:=xW (m:=jW s met q k) (t:=t) (by rw[<-b2.out];exact b8);have h2:=GJ s met q hk256;rw[<-HT.out] at h2;exact⟨by rw[kQ,<-HT.out];exact h1.1,by rw[h2,h1.2];exact b2.out⟩
        have i6:((j:Int)==(L':Int))=false:=by rw[beq_eq_false_iff_ne];omega
        have i0:¬(limit:Int)<L':=ω;have yz:=J.out.fz k;have yc:=J.out.cell hk256;go_wp2
        have g6:RW w (wr.setCell ⟨R,k,none⟩ (lO j)) R (yI (B7 s met q) (k+1)) (.slice A2 tk u):=by have:=J.out.set k j;rw[xX _ _ _ HP.out.2] at this;exact this
        have h8:SA w (wr.setCell ⟨R,k,none⟩ (lO j)) bx (.slice (some ⟨G,0,none⟩) L' F) (.slice A2 tk u) (jW s met q (k+1)) rows:=by rw[HP.out.1];exact P.out.set J.out k _
        refine⟨⟨k+1,L',some ⟨G,0,none⟩,F,rfl,by rw[HP.out.1];exact C.out,a3,π,ω,ω,ω,h8,g6⟩,by simp[intOf]<;>omega⟩
       .have g2:(y==t)=false:=by simpa using hyt
        go_wp2
        go_roundw
        .refine⟨j+1,π,ω,trivial,λi hi hij=>?_⟩;rcases Nat.lt_or_ge i j with q1|q1
         .exact c3.out i hi q1
         .obtain rfl:i=j:=ω;rw[<-HY.out];exact hyt
        .simp[intOf]<;>omega
      .obtain rfl:j=L':=ω;have i1:¬(j:Int)<j:=ω;have b2:Hid ((jW s met q k).length=bU (jW s met q k) t):=by
        have:=io c3.out (.inl C.out);show _=_;rw[<-C.out];exact this
       have HP:Hid (jW s met q (k+1)=jW s met q k++[t]/\j=B7 s met q k):=by
        have h1:=xV b2.out;have h2:=GJ s met q hk256;rw[<-HT.out] at h2;exact⟨by rw[kQ,<-HT.out];exact h1.1,by rw[h2,h1.2];exact C.out⟩
       go_upto_region 14 with(fail)
       have h7:Hid ((wr.alloc (.cells #[.string (ba t)] 9)).ownsRow w.heap.size 9 1 (.slice (some ⟨G,0,none⟩) j F) j ((jW s met q k).map sV)):=by
        have:=Zm P.out.a (.cells #[.string (ba t)] 9);rw[<-C.out] at this;exact this
       have HJ:Hid (j<=1000):=by show _<=_;omega
       have b7:Hid (w.heap.size<=(wr.alloc (.cells #[.string (ba t)] 9)).heap.size):=by show _<=_;have:=P.out.f.size;simp;omega
       have i3:((j:Int)==(j:Int))=true:=χ
       go_upto_region 16 with(at_builtin;refine oh (t:=t) rfl (.tmp 51) (.tmp 53) rfl rfl rfl h7.out (Za wr _) HJ.out b7.out ?_;intro v8 w8 h1 h2 h3;obtain⟨A8,I,rfl,e0⟩:=oj h1;rw[C.out] at h1;obtain⟨k3,k4⟩:=P.out.growA (R:=R) (f:=yI (B7 s met q) k) ZA h1 h2;have b4:Hid (SA w w8 bx (.slice A8 (j+1) I) (.slice A2 tk u) (jW s met q (k+1)) rows):=(by rw[HP.out.1];have:=k3;rw[<-C.out] at this;exact this);have b5:=zh (k4 J.out);clear h1 h2 h3 k3 k4)
       have d7:Hid ((jW s met q (k+1)).length=j+1):=by show _=_;rw[HP.out.1,length_append,<-C.out];rfl
       by_cases hlim:limit<j+1
       .have c0:(limit:Int)<(j:Int)+1:=ω;go_wp2
        refine Zb (v:=.tuple #[.slice none 0 0,.slice none 0 0]) (by simp[results,results48,go_sem]) rfl ?_;have a5:=(vN s met q (k+1) (256-(k+1))).length_le;rw[d7.out,show k+1+(256-(k+1))=256 by omega] at a5;have hn:=e6.out;rw[Zi ω] at hn;exact⟨b4.out.f,.inl ⟨hn.symm,rfl⟩⟩
       .have c0:¬(limit:Int)<(j:Int)+1:=ω;have yz:=b5.out.fz k;have yc:=b5.out.cell hk256;go_wp2
        have g4:RW w (w8.setCell ⟨R,k,none⟩ (lO j)) R (yI (B7 s met q) (k+1)) (.slice A2 tk u):=by have:=b5.out.set k j;rw[xX _ _ _ HP.out.2] at this;exact this
        have h6:SA w (w8.setCell ⟨R,k,none⟩ (lO j)) bx (.slice A8 (j+1) I) (.slice A2 tk u) (jW s met q (k+1)) rows:=b4.out.set b5.out k _;refine⟨⟨k+1,j+1,A8,I,rfl,d7.out.symm,e0,π,ω,ω,ω,h6,g4⟩,by simp[intOf]<;>omega⟩
    .obtain rfl:k=256:=ω;have g9:¬(256:Int)<256:=ω;have g5:Hid ((wr.alloc (.cells (nL (yI (B7 s met q) 256)).toArray 190)).ownsRow w.heap.size 190 256 (.slice A2 tk u) tk (rows.flatMap λr=>r.map lO)):=by
      have:=Zm H.out.n (.cells (nL (yI (B7 s met q) 256)).toArray 190);rw[HL.out.2] at this;exact this
     have HJ:Hid (tk<=1000):=by show _<=_;omega
     have b7:Hid (w.heap.size<=(wr.alloc (.cells (nL (yI (B7 s met q) 256)).toArray 190)).heap.size):=by show _<=_;have:=H.out.f.size;simp;omega
     go_upto_region 5 with(first|(refine rD rfl (.tmp 9) rfl rfl c8.out.h ?_)|(refine po (f:=yI (B7 s met q) 256) rfl (.tmp 63) rfl rfl ?_)|(at_builtin;refine oi (f:=yI (B7 s met q) 256) rfl (.tmp 62) (.tmp 64) rfl rfl rfl g5.out (Za wr _) HJ.out b7.out ?_;intro v8 w8 h1 h2 h3;obtain⟨A8,I,rfl,e0⟩:=oj h1;have b4:=zh (H.out.growN ZA (by rw[HL.out.2,<-B9];exact h1) h2);clear h1 h2 h3))
     go_wp2
     have hn:=e6.out;rw[Zh (by rw[<-C.out];omega)] at hn;exact⟨⟨tk+1,L',jW s met q 256,rows++[(List.range 256).map (B7 s met q)],A',A8,F,I,rfl,rfl,π,C.out,a3,ω,f3,by rw[length_append,HL.out.2];rfl,I1 rfl d2.out,hn,b4.out⟩,by simp[intOf]<;>omega⟩
  .obtain rfl:tk=L:=ω;have f7:¬(tk:Int)<tk:=ω;go_wp2
   refine Zb (v:=.tuple #[.slice A tk a4,.slice A2 tk u]) (by simp[results,results48,go_sem]) rfl ?_;refine⟨U.out.f,.inr ?_⟩;exact⟨met,rows,GK c9.out ω HL.out.1,_,_,rfl,bx,U.out⟩
open Go.RowKit
structure rE (n:Nat) (nxt:Nat->Nat->Nat) (E:Nat->Nat->Prop) (M0 M:Nat->Nat->Bool) (g:Bool) (i k d:Nat):Prop where
 mo:∀ a b,M0 a b=true->M a b=true
 sy:∀ a b,M a b=M b a
 dg:∀ a,M a a=false
 sd:∀ a b,a<n->b<n->M a b=true->¬ E a b
 ag:g=true->∃ a b,a<n/\b<n/\M0 a b=false/\M a b=true
 no:g=false->(∀ a b,M a b=M0 a b)/\∀ a b e,a<n->b<a->e<256->(a<i\/(a=i/\(b<k\/(b=k/\e<d))))->M0 a b=false->M0 (nxt a e) (nxt b e)=false
section
variable {n:Nat}{nxt:Nat->Nat->Nat}{E:Nat->Nat->Prop}{M0 M:Nat->Nat->Bool}{g:Bool}{i k d:Nat}
def rE.start (sy:∀ a b,M a b=M b a) (dg:∀ a,M a a=false) (sd:∀ a b,a<n->b<n->M a b=true->¬ E a b):rE n nxt E M M false 0 0 0:=
 ⟨λ_ _ h=>h,sy,dg,sd,λh=>(by cases h),λ_=>⟨λ_ _=>rfl,λa b e _ _ _ h=>ω⟩⟩
def GL (M:Nat->Nat->Bool) (i k:Nat):Nat->Nat->Bool:=AH (AH M i k true) k i true
variable (M i k a b) in
theorem lF:GL M i k a b=if (a=i/\b=k)\/(a=k/\b=i) then true else M a b:=by
 unfold GL AH
 by_cases h1:a=k/\b=i
 .rw[Zi h1,Zi (.inr h1)]
 .rw[Zh h1]
  by_cases h2:a=i/\b=k
  .rw[Zi h2,Zi (.inl h2)]
  .rw[Zh h2,Zh (λq=>q.elim h2 h1)]
def rE.hit (h:rE n nxt E M0 M g i k d) (hE:∀ a b z,a<n->b<n->z<256->E a b->E (nxt a z) (nxt b z)) (hsE:∀ a b,E a b->E b a) (hx:∀ a z,a<n->z<256->nxt a z<n) (hi:i<n) (hk:k<i) (hd:d<256) (hf:M i k=false) (hm:M (nxt i d) (nxt k d)=true):rE n nxt E M0 (GL M i k) true i k (d+1):=by
 have l:k<n:=ω;have m:¬ E i k:=λe=>h.sd _ _ (hx i d hi hd) (hx k d l hd) hm (hE i k d hi l hd e)
 refine⟨λa b q=>?_,λa b=>?_,λa=>?_,λa b ha hb q=>?_,λ_=>⟨i,k,hi,l,?_,?_⟩,λh=>by cases h⟩
 .rw[lF];split
  .rfl
  .exact h.mo a b q
 .rw[lF,lF,h.sy a b]
  by_cases c:(a=i/\b=k)\/(a=k/\b=i)
  .rw[Zi c,Zi (by rcases c with c|c<;>simp[c.1,c.2])]
  .rw[Zh c,Zh (λq=>c (by rcases q with q|q;exact .inr ⟨q.2,q.1⟩;exact .inl ⟨q.2,q.1⟩))]
 .rw[lF,Zh ω];exact h.dg a
 .rw[lF] at q
  by_cases c:(a=i/\b=k)\/(a=k/\b=i)
  .rcases c with⟨rfl,rfl⟩|⟨rfl,rfl⟩
   .exact m
   .exact λe=>m (hsE _ _ e)
  .rw[Zh c] at q;exact h.sd a b ha hb q
 .cases e:M0 i k with
  |false=>rfl
  |true=>rw[h.mo i k e] at hf;cases hf
 .rw[lF,Zi (.inl ⟨rfl,rfl⟩)]
def rE.miss (h:rE n nxt E M0 M g i k d) (hm:M (nxt i d) (nxt k d)=false):rE n nxt E M0 M g i k (d+1):=by
 refine⟨h.mo,h.sy,h.dg,h.sd,h.ag,λq=>⟨(h.no q).1,λa b x ha hb hx hl h0=>?_⟩⟩
 by_cases hn:a=i/\b=k/\x=d
 .obtain⟨rfl,rfl,rfl⟩:=hn;rw[<-(h.no q).1];exact hm
 .exact(h.no q).2 a b x ha hb hx ω h0
def rE.next (h:rE n nxt E M0 M g i k d) (hf:M i k=true\/256<=d):rE n nxt E M0 M g i (k+1) 0:=by
 refine⟨h.mo,h.sy,h.dg,h.sd,h.ag,λq=>⟨(h.no q).1,λa b x ha hb hx hl h0=>?_⟩⟩
 by_cases hn:a=i/\b=k
 .obtain⟨rfl,rfl⟩:=hn;rcases hf with hf|hf
  .rw[(h.no q).1] at hf;rw[hf] at h0;cases h0
  .exact(h.no q).2 a b x ha hb hx ω h0
 .exact(h.no q).2 a b x ha hb hx ω h0
def rE.row (h:rE n nxt E M0 M g i k 0) (hk:i<=k):rE n nxt E M0 M g (i+1) 0 0:=⟨h.mo,h.sy,h.dg,h.sd,h.ag,λq=>⟨(h.no q).1,λa b x ha hb hx hl h0=>(h.no q).2 a b x ha hb hx ω h0⟩⟩
def rE.done (h:rE n nxt E M0 M false i 0 0) (hi:n<=i):LZ n 256 nxt M:=λa b e ha hb he h0=>by
 obtain⟨h1,h2⟩:=h.no rfl;rcases Nat.lt_trichotomy a b with q|q|q
 .rw[h.sy] at h0 ⊢;rw[h1] at h0 ⊢;exact h2 b a e hb q he ω h0
 .subst q;exact h.dg _
 .rw[h1] at h0 ⊢;exact h2 a b e ha q he ω h0
end
open Go.RowKit
def DU (w:World) (n:Nat) (hn:1<=n/\n<=200) (ga V ca cv:Nat) (hca:n<=ca) (hcv:n<=cv) (acc:Nat->Bool) (nxt:Nat->Nat->Nat) (hA:∀ i,i<n->w.cell? ⟨ga,i,none⟩=some (.bool (acc i))) (hV:∀ i z,i<n->z<256->w.cell? ⟨V,i*256+z,none⟩=some (.int .i64 (nxt i z:Nat))) (hx:∀ i z,i<n->z<256->nxt i z<n)
  (E:Nat->Nat->Prop) (hEs:∀ a b,E a b->E b a) (hEa:∀ a b,a<n->b<n->E a b->acc a=acc b) (hEn:∀ a b z,a<n->b<n->z<256->E a b->E (nxt a z) (nxt b z)) :
  Calls prog 93 #[.slice (some ⟨ga,0,none⟩) n ca,.slice (some ⟨V,0,none⟩) n cv] w λe w'=>∃ A a4 gs M,e=.returned (.slice (some ⟨A,0,none⟩) n a4)/\n<=a4/\MX w.heap.size w w' n A gs M/\(∀ a b,a<n->b<n->(acc a != acc b)=true->M a b=true)/\LZ n 256 nxt M/\(∀ a b,a<n->b<n->M a b=true->¬ E a b):=by
 have HA:Hid (∀ W,Below w.heap.size w W->∀ i,i<n->W.cell? ⟨ga,i,none⟩=some (.bool (acc i))):=λW b i hi=>(b.cell (p:=⟨ga,i,none⟩) (aF (hA i hi))).trans (hA i hi)
 have HV:Hid (∀ W,Below w.heap.size w W->∀ i z,i<n->z<256->W.cell? ⟨V,i*256+z,none⟩=some (.int .i64 (nxt i z:Nat))):=λW b i z hi hz=>(b.cell (p:=⟨V,i*256+z,none⟩) (aF (hV i z hi hz))).trans (hV i z hi hz)
 have HX:=zh hx;have h0:=zh hEn;have i0:=zh hEs;obtain⟨j1,k1⟩:=hn;obtain⟨iB,h9,f8,c7,e7⟩:=info_parts Tryz.infoQB;obtain⟨iL,i2,f9,e9,d6⟩:=info_parts Tryz.infoQL;have j6:=λw0=>dv underlying30 h9 f8 c7 e7 n ω Zs w0
 obtain⟨D,hD⟩:=zx (λa b=>acc a != acc b);have b9:Hid ((∀ a b,D a b=D b a)/\(∀ a,D a a=false)/\∀ a b,a<n->b<n->D a b=true->¬ E a b):=⟨λa b=>by rw[hD];show(acc a != acc b)=(acc b != acc a);cases acc a<;>cases acc b<;>rfl,λa=>by rw[hD];simp,λa b ha hb h e=>by rw[hD] at h;simp[hEa a b ha hb e] at h⟩
 have HD:=zh hD;have g8:Hid (TO w.heap.size w w n D (.slice none 0 0) []):=⟨ZB,zq,Zn _ _ _ _,λj hj=>by simp at hj,λj hj=>by simp at hj,χ,λg hg=>by simp[Value.ownBlock] at hg⟩
 clear hA hV hx hEn hEs hEa hD
 go_enter func93,ntmps93
 go_wp2
 go_loopw [6,7,8,9] (λo i _ _ wr=>∃(gs:List Nat) (vo:Value),vo=o/\i=.int .i64 gs.length/\gs.length<=n/\TO w.heap.size w wr n D vo gs) (λ_ i _ _ _=>n-(intOf i).toNat)
 case atStart=>exact⟨[],_,rfl,rfl,Zk _,g8.out⟩
 case round=>
  obtain⟨gs,vo,rfl,rfl,hk,c9⟩:=hrel;obtain⟨m,hm⟩:=zx gs.length;have HM:=zh hm;rw[<-hm] at hk ⊢;have I:=zh c9;clear hm c9
  by_cases hlt:m<n
  .have j0:(m:Int)<n:=ω
   rename World=>wo
   go_wp2
   obtain⟨w3,a1⟩:=zx (wo.alloc (.cells (jp n (.bool false)) 4));rw[<-a1];obtain⟨q,hq⟩:=zx wo.heap.size;rw[<-hq];have d8:Below wo.heap.size wo w3:=by rw[a1];exact ZA
   have h3:Hid (TO w.heap.size w w3 n D vo gs/\Nw w3 q n (λx=>.bool (decide (x<0)&&D m x))/\q<w3.heap.size):=⟨I.out.below d8,by
    rw[a1,hq]
    exact(Nw.new wo n (.bool false) rfl 4).congr (λj _=>χ),by rw[a1,hq];simp⟩
   have HQ:Hid (w.heap.size<=q/\q ∉ gs/\vo.ownBlock≠some q):=⟨by rw[hq];exact I.out.bl.size,λe=>by
    obtain⟨j,hj,e2⟩:=mem_iff_getElem.1 e;have:=(I.out.lo j hj).2
    omega,λe=>by have:=de I.out.ow e;omega⟩
   clear d8 a1 hq I
   go_loopw [9] (λj wr=>∃ k:Nat,j=.int .i64 k/\k<=n/\TO w.heap.size w wr n D vo gs/\Nw wr q n (λx=>.bool (decide (x<k)&&D m x))/\q<wr.heap.size) (λj _=>n-(intOf j).toNat)
   case atStart=>exact⟨0,rfl,Zk _,h3.out⟩
   case round=>
    obtain⟨k,rfl,j4,G,F,c0⟩:=hrel;have b6:=zh G;have g5:=zh F;have f7:=zh c0
    by_cases hlt2:k<n
    .have i7:(k:Int)<n:=ω;have d1:=HA.out wr G.bl m hlt;have d2:=HA.out wr G.bl k hlt2;have d3:=F.c k hlt2;have d4:=F.fz;have c2:Hid (D m k=(acc m != acc k)):=by show _=_;rw[HD.out]
     obtain⟨z1,b2⟩:=zx (acc m);obtain⟨z2,b0⟩:=zx (acc k);rw[<-b2] at d1 c2;rw[<-b0] at d2 c2;clear G F c0 b2 b0;go_wp2
     go_region
     go_wp2
     go_roundw
     case rel=>
      refine⟨k+1,π,ω,(b6.out.set (o:=k) (v:=.bool (!(z1==z2))) HQ.out.1 HQ.out.2.1 HQ.out.2.2).below ZB.drew,?_,by show q<(wr.setCell _ _).heap.size;rw[cQ];exact f7.out⟩;refine((g5.out.set k hlt2 (.bool (!(z1==z2)))).congr (λx hx=>?_)).of_block rfl
      by_cases e:x=k
      .subst e;have:=c2.out;simp[this,bne]
      .rw[Zh e]
       by_cases e2:x<k
       .simp[e2,lt_succ_of_lt e2]
       .have e3:¬ x<k+1:=ω;simp[e2,e3]
     case measure=>simp[intOf]<;>omega
    .have j2:¬(k:Int)<n:=ω;have j7:Hid (k=n):=by show _=_;omega
     have j3:gs.length<=199:=by have:=HM.out;omega
     have i8:w.heap.size<=wr.heap.size:=G.bl.size
     have h7:Hid (Nw wr q n (λx=>.bool (D gs.length x))):=F.congr (λx hx=>by
      have h1:x<k:=ω
      simp[h1,HM.out])
     clear G F c0;go_wp2_with (at_builtin;refine aD _ rfl (.tmp 40) (.tmp 42) 41 rfl w.heap.size 30 iL _ 1 24 underlying41 i2 f9 e9 d6 rfl Zr vo gs.length (gs.map (jH n)) rfl (Zm b6.out.ow _) ⟨wr.heap.size,0,none⟩ 1 1 [.slice (some ⟨q,0,none⟩) n n] rfl rfl (news_of_block (Za wr _)) Zt ω Zs ω σ _ rfl ?_;intro g6 k6 w6 e4 e0 j8;have i3:=zh (b6.out.app h7.out ⟨HQ.out.1,f7.out⟩ HQ.out.2.1 HQ.out.2.2 ZA e4 rfl e0);clear e4 e0)
     go_roundw
     case rel=>exact⟨gs++[q],_,rfl,by rw[show(gs++[q]).length=m+1 by simp[HM.out]];go_num,by rw[show(gs++[q]).length=m+1 by simp[HM.out]];omega,i3.out⟩
     case measure=>simp[intOf]<;>omega
  .have h8:¬(m:Int)<n:=ω;obtain⟨A,a4,f4,f0⟩:=I.out.mx (η HM.out) ω;have d0:n<=a4:=by
    obtain⟨A',c',e1,e2⟩:=oj I.out.ow;rw[f4] at e1;injection e1 with f1 f2 f3;omega
   subst f4;have f6:=zh f0;clear f0 I;go_wp2
   clear h8 hlt hk HM
   rename World=>wa
   go_loopw [10,11,12,13] (λag _ _ _ wr=>∃(g:Bool) (M:Nat->Nat->Bool),ag=.bool g/\MX w.heap.size w wr n A gs M/\(∀ a b,a<n->b<n->D a b=true->M a b=true)/\(∀ a b,M a b=M b a)/\(∀ a,M a a=false)/\(∀ a b,a<n->b<n->M a b=true->¬ E a b)/\(g=false->LZ n 256 nxt M)) (λag _ _ _ wr=>2*falses n (λa b=>AJ wr (gs.getD a 0) b)+(match ag with|.bool true=>1|_=>0))
   case atStart=>exact⟨true,D,rfl,f6.out,λ_ _ _ _ h=>h,b9.out.1,b9.out.2.1,b9.out.2.2,λh=>by cases h⟩
   case round=>
    clear f6;obtain⟨g,M0,rfl,O,wg,a3,a2,Y,a6⟩:=hrel;have e6:=zh O;have c8:=zh wg;have d5:Hid (rE n nxt E M0 M0 false 0 0 0):=rE.start a3 a2 Y;have h6:=zh O.falses
    cases g with
    |false=>
     have g4:=zh (a6 rfl);clear O wg a6 a3 a2 Y;go_wp2
     go_ret
     exact⟨A,a4,gs,M0,rfl,d0,e6.out,λa b ha hb h=>c8.out a b ha hb (by rw[HD.out];exact h),g4.out,d5.out.sd⟩
    |true=>
     clear O wg a6 a3 a2 Y
     rename World=>wb
     go_wp2
     go_loopw [10,11,12,13] (λag i _ _ wr=>∃(g:Bool) (M:Nat->Nat->Bool) (x:Nat),ag=.bool g/\i=.int .i64 x/\x<=n/\MX w.heap.size w wr n A gs M/\rE n nxt E M0 M g x 0 0) (λ_ i _ _ _=>n-(intOf i).toNat)
     case atStart=>exact⟨false,M0,0,rfl,rfl,Zk _,e6.out,d5.out⟩
     case round=>
      obtain⟨g1,M1,x,rfl,rfl,hx,b4,b3⟩:=hrel;have a7:=zh b4;have C:=zh b3;clear b4 b3
      by_cases hxl:x<n
      .have i1:(x:Int)<n:=ω
       rename World=>wd
       go_wp2
       go_loopw [10,12,13] (λag k _ wr=>∃(g:Bool) (M:Nat->Nat->Bool) (y:Nat),ag=.bool g/\k=.int .i64 y/\y<=x/\MX w.heap.size w wr n A gs M/\rE n nxt E M0 M g x y 0) (λ_ k _ _=>x-(intOf k).toNat)
       case atStart=>exact⟨g1,M1,0,rfl,rfl,Zk _,a7.out,C.out⟩
       case round=>
        clear a7 C;obtain⟨g2,M2,y,rfl,rfl,hy,a9,b1⟩:=hrel;have c3:=zh a9;have b8:=zh b1;clear a9 b1
        by_cases hyl:y<x
        .have h4:(y:Int)<x:=ω;have i9:(y:Int)<n:=ω
         rename World=>we
         go_wp2
         go_loopw [10,13] (λag d wr=>∃(g:Bool) (M:Nat->Nat->Bool) (z:Nat),ag=.bool g/\d=.int .i64 z/\z<=256/\MX w.heap.size w wr n A gs M/\rE n nxt E M0 M g x y z) (λ_ d _=>256-(intOf d).toNat)
         case atStart=>exact⟨g2,M2,0,rfl,rfl,Zk _,c3.out,b8.out⟩
         case round=>
          clear c3 b8;obtain⟨g3,M3,z,rfl,rfl,hz,l,r⟩:=hrel;have Z:=zh l;have j5:=zh r;have b5:x<gs.length:=by rw[l.gl];exact hxl
          have g0:y<gs.length:=by rw[l.gl];omega
          have o1:=l.oc x b5;have t1:=(l.nw x b5).c y ω;obtain⟨gx,X⟩:=zx (gs[x]);have f5:=zh X;have J:Hid (x<gs.length/\y<gs.length):=⟨b5,g0⟩
          rw[<-X] at o1 t1;simp only[jH] at o1
          by_cases hzl:z<256
          .have i5:(z:Int)<256:=ω
           cases hM:M3 x y with
           |true=>
            rw[hM] at t1;have L:=zh (r.next (.inl hM));clear l r X hM;go_wp2
            go_roundw
            case rel=>exact⟨g3,M3,y+1,rfl,π,ω,Z.out,L.out⟩
            case measure=>simp[intOf]<;>omega
           |false=>
            rw[hM] at t1;have hu:=HX.out x z hxl hzl;have hv:=HX.out y z ω hzl;have d1:=HV.out wr l.bl x z hxl hzl;have d2:=HV.out wr l.bl y z ω hzl;have a8:nxt x z<gs.length:=by rw[l.gl];exact hu
            have o2:=l.oc (nxt x z) a8;have t3:=(l.nw (nxt x z) a8).c (nxt y z) hv;obtain⟨gu,c1⟩:=zx (gs[nxt x z]);rw[<-c1] at o2 t3;simp only[jH] at o2;have H:Hid (M3 (nxt x z) (nxt y z)=false->rE n nxt E M0 M3 g3 x y (z+1)):=λh2=>r.miss h2
            have P:Hid (M3 (nxt x z) (nxt y z)=true->rE n nxt E M0 (GL M3 x y) true x y (z+1)):=λh1=>r.hit h0.out i0.out HX.out hxl hyl hzl hM h1
            obtain⟨g9,a5⟩:=zx (M3 (nxt x z) (nxt y z));rw[<-a5] at t3 H P;obtain⟨u,c6⟩:=zx (nxt x z);obtain⟨v,b7⟩:=zx (nxt y z);rw[<-c6] at d1 o2 hu;rw[<-b7] at d2 t3 hv;have j9:(u:Int)<n:=ω;have k0:(v:Int)<n:=ω
            cases g9 with
            |false=>
             have i6:=zh (H.out rfl);clear l r X c1 a5 c6 b7 a8 hM H P;go_wp2
             go_region
             go_wp2
             go_roundw
             case rel=>exact⟨g3,M3,z+1,rfl,π,ω,Z.out.drew1,i6.out⟩
             case measure=>simp[intOf]<;>omega
            |true=>
             have i4:=zh (P.out rfl);clear l r X c1 a5 c6 b7 a8 hM H P;go_wp2
             go_region
             have d7:=Z.out.drew1;have t2:=(d7.nw x J.out.1).fz;rw[<-f5.out] at t2
             go_upto_region 26 with(fail)
             have U:MX w.heap.size w (wr.setCell ⟨gx,y,none⟩ (.bool true)).drew n A gs (AH M3 x y true):=by
              rw[f5.out];exact(Z.out.set J.out.1 ω true).drew1
             obtain⟨W4,d9⟩:=zx ((wr.setCell ⟨gx,y,none⟩ (.bool true)).drew);rw[<-d9] at U ⊢;have h5:=zh U;have e1:=U.oc y J.out.2;have e2:=(U.nw y J.out.2).c x hxl;have e3:=(U.nw y J.out.2).fz;obtain⟨gy,c4⟩:=zx (gs[y]'(J.out.2));have g7:=zh c4;rw[<-c4] at e1 e2 e3;simp only[jH] at e1;clear d9 U d7 c4 d1 d2 o1 o2 t1 t2 t3;go_wp2
             go_roundw
             case rel=>exact⟨true,GL M3 x y,z+1,rfl,π,ω,by rw[g7.out];exact h5.out.set J.out.2 hxl true,i4.out⟩
             case measure=>simp[intOf]<;>omega
          .have i5:¬(z:Int)<256:=ω;have L:=zh (r.next (.inr ω));clear l r X;go_wp2
           go_roundw
           case rel=>exact⟨g3,M3,y+1,rfl,π,ω,Z.out,L.out⟩
           case measure=>simp[intOf]<;>omega
        .have h4:¬(y:Int)<x:=ω;have e5:=zh (b8.out.row ω);go_wp2
         go_roundw
         case rel=>exact⟨g2,M2,x+1,rfl,π,ω,c3.out,e5.out⟩
         case measure=>simp[intOf]<;>omega
      .have i1:¬(x:Int)<n:=ω;go_wp2
       go_roundw
       case rel=>exact⟨g1,M1,rfl,a7.out,λa b ha hb h=>C.out.mo a b (c8.out a b ha hb h),C.out.sy,C.out.dg,C.out.sd,λh=>by subst h;exact C.out.done ω⟩
       case measure=>
        rw[a7.out.falses,h6.out]
        cases g1 with
        |true=>
         obtain⟨a,b,ha,hb,h1,h2⟩:=C.out.ag rfl;have:=DP C.out.mo ha hb h1 h2
         simp;omega
        |false=>
         have:=DQ (n:=n) C.out.mo
         simp;omega
def rF {w x:World} (h:Below B w x) (b:Nat) (hb:B<=b):∀(vs:List Value) (o:Nat),Below B w (x.setCells b o vs):=by
 intro vs
 induction vs generalizing x with
 |nil=>intro o;exact h
 |cons v r ih=>intro o;simp only[setCells];exact ih (h.setCell hb _) (o+1)
def results_cell_tmp {P:Program}{fn:Func}{u p:Tmp}{ty:TypeId} (h:fn.results=#[.cell p ty,.tmp u]) (tmps:Array Value) (w:World) (g:Nat) (cs:List Value) (d:TypeDesc) (v:Value) (hv:tmps.getD u undef=v)
  (hp:tmps.getD p undef=.pointer (some ⟨g,0,none⟩)) (hc:w.rangeAt g 0 cs)
  (hu:P.underlying ty=some d) (hd:d.isRow=true) (hi:(P.info? ty).map (·.size)=some cs.length) :
  (results fn tmps).run P w=.ok (.tuple #[.agg cs.toArray,v]) w:=by
 have l:tmps[p]?.getD undef=.pointer (some ⟨g,0,none⟩):=by simpa using hp
 have e:tmps[u]?.getD undef=v:=by simpa using hv
 simp[results,h,l,e,asAddr,run_loadVar_mid w g 0 ty cs d hc hu hd hi]
def iF (key:Nat->List UInt8) (c:Nat):List (List UInt8):=ai [] ((List.range c).map key)
variable (key c) in
theorem mZ:iF key (c+1)=aq (iF key c) (key c):=by
 unfold iF;rw[range_succ,map_append,cO];rfl
theorem B_ (key:Nat->List UInt8) (k:Nat):∀ d,iF key k <+: iF key (k+d)
 |0=>prefix_refl _
 |d+1=>(B_ key k d).trans (by rw[show k+(d+1)=k+d+1 by omega,mZ];exact lu _ _)
def m_ {y:List UInt8}:y∈iF key c↔∃ e,e<c/\key e=y:=by grind [iF,aH]
def GM (hc:c<=K) {y:List UInt8} (hy:y∈iF key c):bU (iF key K) y=bU (iF key c) y:=by
 have:=B_ key c (K-c);rw[show c+(K-c)=K by omega] at this;exact lv this hy
def pp (key:Nat->List UInt8) (K c:Nat):Nat:=bU (iF key K) (key c)
def KJ {K c e:Nat} (hc:c<K) (he:e<c) (h:key e=key c):pp key K e=pp key K c/\pp key K c<(iF key c).length/\iF key (c+1)=iF key c:=by
 have hm:=m_.2 ⟨e,he,h⟩;refine⟨by unfold pp;rw[h],?_,?_⟩
 .unfold pp;rw[GM ω hm];exact eZ hm
 .grind [mZ,aq]
def KK (hc:c<K) (h:∀ e,e<c->key e≠key c):pp key K c=(iF key c).length/\(iF key (c+1)).length=(iF key c).length+1:=by
 have hm:key c ∉ iF key c:=λq=>by obtain⟨e,he,q⟩:=m_.1 q;exact h e he q
 have h1:iF key (c+1)=iF key c++[key c]:=by rw[mZ];unfold aq;rw[Zh hm]
 refine⟨?_,by rw[h1];simp⟩;unfold pp;rw[GM (c:=c+1) ω (by rw[h1];simp),mZ];exact jx.2 hm
variable (key c) in
def Ca:(iF key c).length<=c:=by grind [c_,iF]
structure CW (w wq:World) (R4 R6:Nat) (f:Nat->Nat):Prop where
 bl:Below w.heap.size w wq
 a:wq.heap[R4]?=some (.cells (nL λ_=>0).toArray 190)
 b:wq.heap[R6]?=some (.cells (nL f).toArray 190)
 l4:w.heap.size<=R4
 l6:R4<R6
def CW.set (h:CW w wq R4 R6 f) (c v:Nat):CW w (wq.setCell ⟨R6,c,none⟩ (lO v)) R4 R6 (λi=>if i=c then v else f i):=
 ⟨h.bl.setCell (p:=⟨R6,c,none⟩) (by have:=h.l4;have:=h.l6;show _<=R6;omega) _,(ah _ _ _ _ (ne_of_lt h.l6)).trans h.a,by rw[ap h.b,AL],h.l4,h.l6⟩
theorem CW.cell (h:CW w wq R4 R6 f)  (hc:c<256):wq.cell? ⟨R6,c,none⟩=some (.int .i64 (f c:Nat)):=by
 simp only[cell?,h.b];have:=jJ f c hc
 simpa [lO] using this
def CW.fz (h:CW w wq R4 R6 f) (c:Nat):wq.frozen? ⟨R6,c,none⟩=false:=by simp[frozen?,h.b]
theorem CW.drew (h:CW w wq R4 R6 f):CW w wq.drew R4 R6 f:=⟨⟨h.bl.os,h.bl.tape,h.bl.output,h.bl.size,h.bl.block⟩,h.a,h.b,h.l4,h.l6⟩
def CW.congr {f g:Nat->Nat} (h:CW w wq R4 R6 f) (e:f=g):CW w wq R4 R6 g:=e▸h
def En (kx:Nat->Nat) (c v i:Nat):Nat:=if i<c then kx i else if i=c then v else 0
def Cb {c v:Nat} (h:v=kx c):En kx c v=λi=>if i<c+1 then kx i else 0:=by grind [En]
def I2 (kx:Nat->Nat) (c v u:Nat):(λi=>if i=c then u else En kx c v i)=En kx c u:=by grind [En]
def AM (w:World) (n:Nat) (hn:1<=n/\n<=200) (V A cv cA:Nat) (hcv:n<=cv) (hcA:n<=cA) (gs:List Nat) (nxt:Nat->Nat->Nat) (M:Nat->Nat->Bool) (hV:∀ i z,i<n->z<256->w.cell? ⟨V,i*256+z,none⟩=some (.int .i64 (nxt i z:Nat))) (hx:∀ i z,i<n->z<256->nxt i z<n)
  (hO:∀ i,i<n->∃ g,w.cell? ⟨A,i,none⟩=some (.slice (some ⟨g,0,none⟩) n n)/\∀ k,k<n->w.cell? ⟨g,k,none⟩=some (.bool (M i k))) (key:Nat->List UInt8) (hk:∀ c d,c<256->d<256->((∀ i,i<n->M (nxt i c) (nxt i d)=false)↔key d=key c)) :
  Calls prog 94 #[.slice (some ⟨V,0,none⟩) n cv,.slice (some ⟨A,0,none⟩) n cA] w λe w'=>e=.returned (.tuple #[.agg (nL (pp key 256)).toArray,.int .i64 ((iF key 256).length:Nat)])/\Below w.heap.size w w':=by
 have HV:Hid (∀ W,Below w.heap.size w W->∀ i z,i<n->z<256->W.cell? ⟨V,i*256+z,none⟩=some (.int .i64 (nxt i z:Nat))):=λW b i z hi hz=>(b.cell (p:=⟨V,i*256+z,none⟩) (aF (hV i z hi hz))).trans (hV i z hi hz)
 have HX:=zh hx;have HO:Hid (∀ W,Below w.heap.size w W->∀ i,i<n->∃ g,W.cell? ⟨A,i,none⟩=some (.slice (some ⟨g,0,none⟩) n n)/\∀ k,k<n->W.cell? ⟨g,k,none⟩=some (.bool (M i k))):=λW b i hi=>by
  obtain⟨g,h1,h2⟩:=hO i hi;exact⟨g,(b.cell (p:=⟨A,i,none⟩) (aF h1)).trans h1,λk hk=>(b.cell (p:=⟨g,k,none⟩) (aF (h2 k hk))).trans (h2 k hk)⟩
 have HK:=zh hk;obtain⟨c9,d7⟩:=hn;obtain⟨kx,U⟩:=zx (pp key 256);have b1:=zh U;rw[<-U];clear hV hx hO hk U
 go_enter func94,ntmps94
 go_upto_region 2 with(first|(refine ed rfl rfl _ rfl w.heap.size rfl ?_;obtain⟨W1,Z⟩:=zx (w.alloc (.cells (nL λ_=>0).toArray 190));rw[<-Z];have O:=zh Z;clear Z)|(refine ed rfl rfl _ rfl W1.heap.size rfl ?_))
 obtain⟨W2,J⟩:=zx (W1.alloc (.cells (nL λ_=>0).toArray 190));obtain⟨R4,a5⟩:=zx w.heap.size;obtain⟨R6,a1⟩:=zx W1.heap.size;have a4:W1.heap.size=w.heap.size+1:=by rw[O.out];simp
 have a8:Hid (CW w W2 R4 R6 (λ_=>0)):=by
  have b6:Below w.heap.size w W1:=by rw[O.out];exact ZA
  have b0:Below W1.heap.size W1 W2:=by rw[J];exact ZA
  exact⟨b6.trans (b0.mono b6.size),by rw[a5,b0.block _ ω,O.out];exact Za w _,by rw[J,a1];exact Za W1 _,ω,ω⟩
 rw[<-J,<-a5,<-a1];clear J a5 a1 a4 O;go_wp2
 go_loopw [7,8,9,10,11] (λvn vc _ _ _ wr=>∃(m c:Nat),vn=.int .i64 m/\vc=.int .i64 c/\c<=256/\m=(iF key c).length/\CW w wr R4 R6 (λi=>if i<c then kx i else 0)) (λ_ vc _ _ _ _=>256-(intOf vc).toNat)
 case atStart=>exact⟨0,0,rfl,rfl,ω,rfl,a8.congr (by funext i;simp)⟩
 case round=>
  clear a8;obtain⟨m,c,rfl,rfl,hc,hm,r⟩:=hrel;have l:=zh r;have HM:=zh hm;have c0:m<=256:=by rw[hm];exact Zc (Ca key c) hc
  clear r hm
  by_cases hcl:c<256
  .have b9:(c:Int)<256:=ω;have y0:=l.cell hcl;have yz:=l.fz c
   have Y:Hid (CW w (wr.setCell ⟨R6,c,none⟩ (.int .i64 (m:Nat))) R4 R6 (En kx c m)):=(l.set c m).congr (by
    funext i
    unfold En
    by_cases e:i=c
    .subst e;simp
    .simp[e])
   rename World=>wo
   go_upto_region 7 with(fail)
   obtain⟨W3,a2⟩:=zx (wo.setCell ⟨R6,c,none⟩ (.int .i64 (m:Nat)));rw[<-a2] at Y;rw[<-a2];clear a2 y0 yz l;go_wp2
   go_loopw [9,10,11] (λvd _ _ wr=>∃(d v:Nat),vd=.int .i64 d/\d<=c/\CW w wr R4 R6 (En kx c v)/\((v=m/\∀ e,e<d->key e≠key c)\/(v=kx c/\v<m/\iF key (c+1)=iF key c))) (λvd _ _ _=>c-(intOf vd).toNat)
   case atStart=>exact⟨0,m,rfl,ω,Y,.inl ⟨rfl,λe h=>ω⟩⟩
   case round=>
    clear Y;obtain⟨d,v,rfl,hd,r,hv⟩:=hrel;have l:=zh r;have X:=zh hv;have d3:v<=256:=by rcases hv with⟨q,_⟩|⟨_,q,_⟩<;>omega
    clear r hv;have y0:wr.cell? ⟨R6,c,none⟩=some (.int .i64 (v:Nat)):=by
     have:=l.cell hcl;unfold En at this
     simpa using this
    have yz:=l.fz c;have I:Hid (v=kx c->iF key (c+1)=iF key c->CW w wr R4 R6 (λi=>if i<c+1 then kx i else 0)):=λh1 _=>l.congr (Cb h1)
    by_cases hvlt:v<m
    .have c2:((v:Int)==(m:Int))=false:=by rw[beq_eq_false_iff_ne];omega
     have HR:Hid (v=kx c/\iF key (c+1)=iF key c):=by
      rcases X with⟨q,_⟩|⟨q1,_,q2⟩
      .omega
      .exact⟨q1,q2⟩
     by_cases hdc:d<c
     .have a3:(d:Int)<c:=ω;go_wp2
      exact⟨⟨m,c+1,rfl,π,ω,by rw[HR.out.2];exact HM,I HR.1 HR.2⟩,by simp[intOf]<;>omega⟩
     .have a3:¬(d:Int)<c:=ω;go_wp2
      exact⟨⟨m,c+1,rfl,π,ω,by rw[HR.out.2];exact HM,I HR.1 HR.2⟩,by simp[intOf]<;>omega⟩
    .have HL:Hid (v=m/\∀ e,e<d->key e≠key c):=by
      rcases X with q|⟨_,q,_⟩
      .exact q
      .omega
     obtain rfl:v=m:=HL.1;have c2:((v:Int)==(v:Int))=true:=χ
     by_cases hdc:d<c
     .have a3:(d:Int)<c:=ω;clear I X
      rename World=>wi
      go_wp2
      go_loopw [10,11] (λvs vi wr=>∃(i:Nat) (b:Bool),vs=.bool b/\vi=.int .i64 i/\i<=n/\CW w wr R4 R6 (En kx c v)/\(b=true↔∀ j,j<i->M (nxt j c) (nxt j d)=false)) (λ_ vi _=>n-(intOf vi).toNat)
      case atStart=>exact⟨0,true,rfl,rfl,ω,l,χ⟩
      case round=>
       clear l y0 yz;obtain⟨i,b,rfl,rfl,hi,r,hb⟩:=hrel;have l:=zh r;have HB:=zh hb;clear hb
       by_cases hil:i<n
       .have c3:(i:Int)<n:=ω;have d1:=HV wr r.bl i c hil hcl;have d2:=HV wr r.bl i d hil ω;have hu:=HX i c hil hcl;have hv:=HX i d hil ω;obtain⟨g,o1,o2⟩:=HO wr r.bl _ hu;have t1:=o2 _ hv;obtain⟨b7,H⟩:=zx (M (nxt i c) (nxt i d));have b3:=zh H;rw[<-H] at t1;obtain⟨u,b5⟩:=zx (nxt i c);obtain⟨x,a9⟩:=zx (nxt i d);rw[<-b5] at d1 o1 hu;rw[<-a9] at d2 t1 hv;have d5:(u:Int)<n:=ω;have d6:(x:Int)<n:=ω;clear r o2 H b5 a9
        cases b7 with
        |false=>
         go_wp2
         go_region
         go_wp2
         go_roundw
         case rel=>exact⟨i+1,b,rfl,π,ω,l.drew,HB.trans ⟨λh j hj=>by
          rcases Nat.lt_or_ge j i with q|q
          .exact h j q
          .obtain rfl:j=i:=ω
           exact b3.symm,λh j hj=>h j ω⟩⟩
         case measure=>simp[intOf]<;>omega
        |true=>
         go_wp2
         go_region
         go_wp2
         go_roundw
         case rel=>exact⟨i+1,false,rfl,π,ω,l.drew,by
          constructor
          .intro h;cases h
          .intro h;have:=h i ω
           rw[<-b3.out] at this;cases this⟩
         case measure=>simp[intOf]<;>omega
       .obtain rfl:i=n:=ω;have c3:¬(i:Int)<i:=ω;have P:=HK c d hcl ω
        cases b with
        |true=>
         have HE:=zh (P.1 (HB.1 rfl));have y0:wr.cell? ⟨R6,c,none⟩=some (.int .i64 (v:Nat)):=by
          have:=l.cell hcl;unfold En at this
          simpa using this
         have y1:wr.cell? ⟨R6,d,none⟩=some (.int .i64 (kx d:Nat)):=by
          have:=l.cell (c:=d) ω;unfold En at this
          simpa [hdc] using this
         have yz:=l.fz c;have y:=KJ hcl hdc HE;rw[<-b1.out] at y;have y:=zh y;have c7:(c:Int)<256:=ω;have c8:(d:Int)<256:=ω;clear r P;go_wp2
         refine⟨⟨d+1,kx c,π,ω,(l.set c (kx c)).congr (I2 _ _ _ _),.inr ⟨rfl,by rw[HM.out];exact y.2.1,y.2.2⟩⟩,by simp[intOf]<;>omega⟩
        |false=>
         have c1:Hid (key d≠key c):=λe=>by have:=HB.2 (P.2 e);cases this
         clear r P;go_wp2
         refine⟨⟨d+1,v,π,ω,l,.inl ⟨rfl,λe he=>?_⟩⟩,by simp[intOf]<;>omega⟩;rcases Nat.lt_or_ge e d with q|q
         .exact HL.2 e q
         .obtain rfl:e=d:=ω;exact c1
     .have a3:¬(d:Int)<c:=ω;obtain rfl:d=c:=ω;have C:=KK hcl HL.2;rw[<-b1.out] at C;have C:=zh C;go_wp2
      exact⟨⟨v+1,d+1,π,π,ω,by rw[C.out.2,<-HM.out],l.congr (Cb (by rw[C.out.1];exact HM))⟩,by simp[intOf]<;>omega⟩
  .obtain rfl:c=256:=ω;have b9:¬(256:Int)<256:=ω;obtain⟨cs,G⟩:=zx (nL kx);have hb:wr.heap[R6]?=some (.cells cs.toArray 190):=by
    have:=l.b;rw[show nL (λi=>if i<256 then kx i else 0)=nL kx from B9 kx] at this;rw[G];exact this
   have F:cs.length=256:=by rw[G];exact jI _
   have b2:wr.there R4 0 cs.toArray.size:=λj hj=>by
    have c4:j<256:=by simpa [F] using hj
    have:=jJ (λ_=>0) j c4;simp only[cell?,frozen?,l.out.a,Nat.zero_add];simp[this]
   have a7:(prog.info? 190).map (·.size)=some cs.toArray.size:=by
    obtain⟨i,hi,d0,a4,d4⟩:=info_parts Tryz.infoNI;rw[hi,Option.map_some,a4];simp[F]
   have a6:cs.toArray.all (·.oneCell')=true:=all_oneCell_toArray (λv hv=>by
    rw[G] at hv;unfold nL at hv;obtain⟨k,_,rfl⟩:=mem_map.1 hv
    rfl)
   have b4:wr.rangeAt R6 0 cs:=λj v hv=>by
    simp only[cell?,hb,Nat.zero_add]
    simpa using hv
   have HB:Hid (wr.rangeAt R6 0 cs/\wr.there R4 0 cs.toArray.size/\(prog.info? 190).map (·.size)=some cs.toArray.size/\cs.toArray.all (·.oneCell')=true/\cs=nL kx):=⟨b4,b2,a7,a6,G⟩
   clear hb F b2 a7 a6 b4 G;go_wp2_with (first|(refine wpList_load_mid rfl 190 (.tmp 6) rfl R6 0 rfl cs _ HB.1 underlying190 rfl (by have:=HB.2.2.1;simpa using this) ?_)|(refine wpList_store_mid rfl 190 (.tmp 4) (.tmp 67) rfl R4 0 cs.toArray rfl rfl HB.2.1 HB.2.2.1 HB.2.2.2.1 ?_))
   obtain⟨W9,L⟩:=zx (wr.setCells R4 0 cs);have c6:W9.rangeAt R4 0 cs:=by rw[L];exact rangeAt_setCells_same wr R4 0 cs (by have:=HB.2.1;simpa using this)
   have b8:Below w.heap.size w W9:=by rw[L];exact rF l.bl R4 l.l4 _ _
   have e9:wr.setCells R4 0 cs.toArray.toList=W9:=by rw[L]
   first|rw[e9]|rw[<-L]
   refine Zb (v:=.tuple #[.agg cs.toArray,.int .i64 (m:Nat)]) (results_cell_tmp results94 _ _ R4 cs _ _ rfl rfl c6 underlying190 rfl (by have:=HB.2.2.1;simpa using this)) rfl ⟨?_,b8⟩;rw[HB.out.2.2.2.2,HM.out]
def bk (T:Tn) (s:Nat):UInt8:=(bD T).getD s 0
def kS (T:Tn) (c:Nat):List UInt8:=iJ (bD T) T.next c
section
variable {n:Nat}{T:Tn} (h:ej n 256 T) (hn:n<=200)
include h hn
def KL (hD:∀ a b,a<n->b<n->(ac T a != ac T b)=true->M a b=true) (hC:LZ n 256 (nx T) M) (hS:∀ a b,a<n->b<n->M a b=true->¬ bk T a=bk T b)  (ha:a<n) (hb:b<n):M a b=false↔bk T a=bk T b:=by
 constructor
 .intro e;refine FM h.ok hn (R:=λi j=>i<n/\j<n/\M i j=false) ?_ ⟨ha,hb,e⟩;rintro i j ⟨hi,hj,e⟩;refine⟨hi,hj,?_,λc hc=>⟨h.ok.nx_lt hi hc,h.ok.nx_lt hj hc,hC i j c hi hj hc e⟩⟩
  cases q:(ac T i != ac T j) with
  |false=>simpa using q
  |true=>rw[hD i j hi hj q] at e;cases e
 .intro e
  cases q:M a b with
  |false=>rfl
  |true=>exact(hS a b ha hb q e).elim
def I3 (hM:∀ a b,a<n->b<n->(M a b=false↔bk T a=bk T b)) {c d:Nat} (hc:c<256) (hd:d<256):(∀ i,i<n->M (nx T i c) (nx T i d)=false)↔kS T d=kS T c:=by
 have _:=hn;have e:∀ c,kS T c=(List.range n).map λi=>bk T (nx T i c):=λc=>by
  unfold kS iJ;refine ext_getElem (by simp[h.ok.nl]) λi h1 h2=>?_
  have hi:i<T.next.length:=by simpa using h1
  simp only[getElem_map,getElem_range,bk,nx,getD_at hi]
 rw[e,e]
 constructor
 .intro q;refine map_congr_left (λi hi=>?_);have hi:=mem_range.1 hi;exact((hM _ _ (h.ok.nx_lt hi hc) (h.ok.nx_lt hi hd)).1 (q i hi)).symm
 .intro q i hi;refine(hM _ _ (h.ok.nx_lt hi hc) (h.ok.nx_lt hi hd)).2 ?_;have:=congrArg (λl=>l[i]?) q;simp only[getElem?_map,getElem?_range hi,Option.map_some] at this;injection this with this;exact this.symm
def JU {s:Nat} (hs:s<n):(bD T).idxOf (bk T s)<n/\bk T ((bD T).idxOf (bk T s))=bk T s:=by
 have _:=hn;have hl:=vj h.ok;have l:s<(bD T).length:=by rw[hl];exact hs
 have hm:bk T s∈bD T:=by unfold bk;rw[getD_at l];exact Zg _
 have hi:=Zq hm;refine⟨by rw[<-hl];exact hi,?_⟩;have e:bk T ((bD T).idxOf (bk T s))=(bD T)[(bD T).idxOf (bk T s)]:=getD_at hi 0;rw[e];exact getElem_idxOf hi
def GN {s o:Nat} (hs:s<n) (ho:o<256):bH T (bD T) (bk T s) o=bk T (nx T s o):=by
 obtain⟨h1,h2⟩:=JU h hn hs;have:=(iO h.ok hn h1 hs h2).2 o ho;exact this
def I4 {s:Nat} (hs:s<n):T.acc.getD ((bD T).idxOf (bk T s)) false=ac T s:=by
 obtain⟨h1,h2⟩:=JU h hn hs;exact(iO h.ok hn h1 hs h2).1
end
def rG (hc:T.cls=List.range 256):bh T (bD T)=(List.range 256).map (kS T):=by
 unfold bh;rw[hc];rfl
variable (key c) in
theorem I5:iF key c=ai [] ((List.range c).map key):=rfl
def Cc (hc:T.cls=List.range 256):ai [] (bh T (bD T))=iF (kS T) 256:=by
 rw[rG hc,I5]
variable (key K) in
theorem KM (l:List Nat):(l.map key).map (bU (iF key K))=l.map (pp key K):=by rw[map_map];rfl
def I6 (hc:T.cls=List.range 256):(bh T (bD T)).map (bU (ai [] (bh T (bD T))))=(List.range 256).map (pp (kS T) 256):=by
 rw[Cc hc,rG hc,KM]
theorem rH {α:Type} [DecidableEq α]:∀ {L:List α}{y:α}{j:Nat} (hj:j<L.length),j<bU L y->L[j]≠y
 |[],y,j,hj,_=>by simp at hj
 |a::m,y,j,hj,h=>by
  by_cases e:a=y
  .subst e;have:bU (a::m) a=0:=by unfold bU;simp
   omega
  .have e0:bU (a::m) y=bU m y+1:=by
    unfold bU;have hb:=beq_eq_false_iff_ne.2 e;rw[idxOf_cons,hb];rfl
   cases j with
   |zero=>simpa using e
   |succ j=>
    rw[getElem_cons_succ];exact rH (by simpa using hj) ω
def rJ (kx:Nat->Nat) (K c k:Nat):Nat:=((range' c (K-c)).find? (λe=>kx e==k)).getD 0
def GO (kx:Nat->Nat)  (hc:c<K):rJ kx K c=λk=>if k=kx c then c else rJ kx K (c+1) k:=by
 funext k
 unfold rJ;rw[show K-c=(K-(c+1))+1 by omega,range'_succ,find?_cons]
 by_cases e:kx c=k
 .subst e;simp
 .have e':¬ k=kx c:=λq=>e q.symm
  have eb:(kx c==k)=false:=by rw[beq_eq_false_iff_ne];exact e
  rw[eb,Zh e']
def Cd (hk:k<(iF key K).length):rJ (pp key K) K 0 k=bU ((List.range K).map key) (iF key K)[k]/\rJ (pp key K) K 0 k<K:=by
 have hm:=Zg hk;obtain⟨e,he,z⟩:=m_.1 hm;have F:(iF key K).Nodup:=bR χ _;have r:=mem_map.2 ⟨e,mem_range.2 he,z⟩;have hi:=eZ r;have m:bU ((List.range K).map key) (iF key K)[k]<K:=by simpa using hi
 have hg:=vg r;rw[getElem_map,getElem_range] at hg;have y:∀ c,c<K->(pp key K c=k↔key c=(iF key K)[k]):=λc hc=>by
  have C:key c∈iF key K:=m_.2 ⟨c,hc,rfl⟩;unfold pp
  constructor
  .intro q;have:=vg C;rw[<-this]
   congr 1
  .intro q;rw[q];exact(io (λj hj hjk=>λe=>by have:=(getElem_inj F).1 e;omega) (.inr ⟨hk,rfl⟩)).symm
 have l:rJ (pp key K) K 0 k=bU ((List.range K).map key) (iF key K)[k]:=by
  unfold rJ;rw[Nat.sub_zero,<-range_eq_range'];have:(List.range K).find? (λe=>pp key K e==k)=some (bU ((List.range K).map key) (iF key K)[k]):=by
   rw[find?_range_eq_some];refine⟨by simpa using(y _ m).2 hg,mem_range.2 m,λj hj=>?_⟩;have u:j<K:=ω;have:pp key K j≠k:=λq=>by
    have h1:=(y j u).1 q;have h2:=rH (L:=(List.range K).map key) (by simpa using u) hj;exact h2 (by simpa using h1)
   simpa using this
  rw[this];rfl
 exact⟨l,by rw[l];exact m⟩
end Go.Proofs.YtbjabpodkaokjaaGreatDoor

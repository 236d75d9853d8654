import Derived.Test.YtbjabpodkaokjaaGreatDoorCC33
set_option linter.all false
set_option maxHeartbeats 4000000
set_option maxRecDepth 100000
open List Nat Go.World Go.Proofs.Tryz
namespace Go.Proofs.YtbjabpodkaokjaaGreatDoor.Sx
open Go.RowKit
variable {w w':World}{b:Nat}{s:ByteArray}{r:List UInt8}{S:Nat->Bool}{g:Nat}{kv:Value}{mn mx sg:Int}{N:Nat}{T:RT}{e:Ending}{x y:World}{t:List UInt8}
def fd (w w':World) (b:Nat) (s:ByteArray) (r:List UInt8) (T:RT) (e:Ending):Prop:=
 ∃ g,e=.returned (.pointer (some ⟨g,0,none⟩))/\nG w w' b s r/\aV w' (dn w.heap.size w') T g
theorem fd.bytes (he:e=.returned (.pointer (some ⟨g,0,none⟩))) (hm:nG w w' b s r) (ht:Tr w' g 0 S kv mn mx sg) (hg:w.heap.size<=g):fd w w' b s r (.bytes S) e:=
 ⟨g,he,hm,by simp only[aV];exact⟨⟨hg,ht.lt⟩,kv,mn,mx,sg,ht⟩⟩
def rZ {w0 w1:World}{kind:Int}{B:Nat->Bool} (h:w0.alloc (.cells (tA kind B kv mn mx sg) 187)=w1) (hN:w0.heap.size=N):Tr w1 N kind B kv mn mx sg:=by
 rw[<-h,<-hN];exact Fa _ _ _ _ _ _ _
abbrev vV (b:Nat) (s:ByteArray) (r r':List UInt8) (T:RT):Prop:=∀ w,Mk w b s r->Calls prog 87 #[.pointer (some ⟨b,0,none⟩)] w λe w'=>fd w w' b s r' T e
def aV.grow {w x y z:World} (h:aV y (dn x.heap.size y) T g) (h1:Rd b w x) (h2:Rd b y z) (hb:b<x.heap.size):aV z (dn w.heap.size z) T g:=
 aV.of_heap (λk hk hlt=>by
  have:=h1.size;have:=h2.size;have:=hk.1
  exact⟨⟨ω,ω⟩,h2.block k hlt ω⟩) T g h
def A1 (hN:N=x.heap.size) (hy:(x.alloc (.cells (bA λ_=>false) 184)).setCells N 0 (bL S)=y) (h:Mk x b s r) (hr:Rd b w x):Mk y b s r/\Rd b w y/\Bs y N S/\(∀ g,g<x.heap.size->y.heap[g]?=x.heap[g]?):=by
 subst hN;obtain⟨h1,h2,h3,h4,_⟩:=uz hy h hr;exact⟨h1,h2,h3,h4⟩
variable (w b s) in
def jo (c:UInt8) (t r':List UInt8) (T:RT) (h:Mk w b s (c::t)) (hc:(c≠40/\c≠91/\c≠46/\c≠92/\t=r'/\T=.bytes (ax c.toNat c.toNat))\/(∃ S,c=91/\eH t=.ok S r'/\T=.bytes S)\/(c=40/\vV b s t (41::r') T)\/(∃ S,c=92/\rU b s t r' (-1) S/\T=.bytes S)\/(∃ S v,c=92/\S=aT/\v<256/\rU b s t r' (v:Nat) S/\T=.bytes (ax v v))) :
  Calls prog 202 #[.pointer (some ⟨b,0,none⟩)] w λe w'=>fd w w' b s r' T e:=by
 have m:=h.lt;obtain⟨k,n,e1,c0,c1,hk,sz,lt,fz⟩:=h.byte;have l:=c.toNat_lt;rcases hc with⟨h1,h2,h3,h4,rfl,rfl⟩|⟨S,rfl,hP,rfl⟩|⟨rfl,hG⟩|⟨S,rfl,hE,rfl⟩|⟨S,v,rfl,hS,hv,hE,rfl⟩;have q1:((c.toNat:Int)==40)=false:=ii h1;have q2:((c.toNat:Int)==91)=false:=ii h2;have q3:((c.toNat:Int)==46)=false:=ii h3;have q4:((c.toNat:Int)==92)=false:=ii h4;clear h1 h2 h3 h4
 all_goals
  try (have HS:Hid (S=aT):=hS;clear hS)
  go_enter func202,ntmps202
  go_wp2
  go_quiet (fail)
  have g0:=(h.drewN nq).next hk;have r0:Rd b w ((w.drewN nq).setCell ⟨b,1,none⟩ (.int .i64 ((k:Int)+1))):=((Rd.refl b w).drewN _).setCell _ _;go_wp2_with (first|(go_at_call 212;refine(Hg _ b s t r' S g1 hP).mono ?_;rintro e w2 ⟨rfl,⟨g2,l2⟩,t2⟩)|(go_at_call 87;refine(hG _ g1).mono ?_;rintro e w2 ⟨g,rfl,⟨g2,l2⟩,t2⟩;obtain⟨j,q,f1,d0,d1,hj,o,p,u⟩:=g2.byte)|(refine wpList_store_mid rfl 184 (.tmp 70) (.tmp 68) rfl w.heap.size 1 (bA S) rfl rfl (by rw[cC];exact t4.there) (by rw[cC];exact fU) (jt _) ?_;generalize d:setCells w4 _ _ _=w5;have t5:Tr w5 w.heap.size 0 S (.slice none 0 0) 0 0 0:=(by rw[<-d];exact t4.all S);have g5:Mk w5 b s r':=(by rw[<-d];exact g4.keep (cg _ _ _ _ _ ω) (by rw[size_setCells];exact zq));have r5:Rd b w w5:=(by rw[<-d];exact kX r4 _ zq _ _);clear d;try (have cT:=t5.cB v hv;have fT:=t5.fz (1+v)))|(refine wpList_load_mid rfl 184 (.tmp 7) rfl w3.heap.size 0 rfl (bL S) _ b4.range underlying184 rfl (by rw[dc];exact fU) ?_)|(refine wpList_store_mid rfl 184 (.tmp 7) (.tmp 66) rfl w3.heap.size 0 (bA S) rfl rfl (by rw[cC];exact(iW _ _ _).there) (by rw[cC];exact fU) (jt _) ?_;generalize f:setCells _ _ _ _=w4;obtain⟨g4,r4,b4,h4⟩:=A1 rfl f g3 r3;have t4:=t3.of_heap (h4 _ t3.lt);clear f h4)|(refine bT rfl rfl _ rfl w3.heap.size rfl ?_)|(go_at_call 213;refine(hE _ g1).mono ?_;rintro e w3 ⟨rfl,g3,l3⟩;have t3:=t1.of_heap (l3.block _ t1.lt ω);have r3:=r1.trans l3)|(refine wpList_buildTo rfl 187 #[] rfl _ rfl (tA 0 (λ_=>false) (.slice none 0 0) 0 0 0) (rV _) ?_)|((refine Great.wpList_boxTo rfl 187 (.tmp 24) rfl _ rfl w.heap.size (by simp[World.setCell]) (tA 0 (λ_=>false) (.slice none 0 0) 0 0 0) rfl ?_;generalize a:World.alloc _ _=w1;have t1:Tr w1 w.heap.size 0 (λ_=>false) (.slice none 0 0) 0 0 0:=rZ a (by simp[World.setCell]);have r1:Rd b w w1:=(by rw[<-a];exact r0.alloc _);have g1:Mk w1 b s t:=(by rw[<-a];exact g0.alloc _);have z1:w1.heap.size=w.heap.size+1:=(by rw[<-a];simp[World.setCell]);clear a);try (have cT:=t1.cB c.toNat l;have fT:=t1.fz (1+c.toNat))))
  go_ret
  first
  |(rw[z1] at t2;exact fd.bytes rfl ⟨g2,r1.trans l2⟩ t2 ω)
  |exact⟨g,rfl,⟨g2.next hj,(r1.trans l2).setCell _ _⟩,t2.grow r1 ((Rd.refl b w2).setCell _ _) g1.lt⟩
  |exact fd.bytes rfl ⟨g5,r5⟩ t5 zq
  |exact fd.bytes rfl ⟨g5.set2 ω _,r5.setNew zq _⟩ ((t5.bit v hv true).congr (C:=ax v v) (λi _=>by rw[HS.out];by_cases e:i=v<;>simp[e,ax];omega)) zq
  |exact fd.bytes rfl ⟨g1.set2 ω _,r1.setNew zq _⟩ ((t1.bit c.toNat l true).congr (C:=ax c.toNat c.toNat) (λi _=>by by_cases e:i=c.toNat<;>simp[e,ax];omega)) zq
variable (w b s t) in
def Ee (h:Mk w b s (46::t)) :
  Calls prog 202 #[.pointer (some ⟨b,0,none⟩)] w λe w'=>fd w w' b s t (.bytes λn=>!ax 10 10 n) e:=by
 have a:=h.lt;obtain⟨k,f,e1,c0,c1,hk,sz,lt,fz⟩:=h.byte
 go_enter func202,ntmps202
 go_wp2
 go_quiet (fail)
 have g0:=(h.drewN nq).next hk;have r0:Rd b w ((w.drewN nq).setCell ⟨b,1,none⟩ (.int .i64 ((k:Int)+1))):=((Rd.refl b w).drewN _).setCell _ _;go_wp2_with (first|(refine wpList_buildTo rfl 187 #[] rfl _ rfl (tA 0 (λ_=>false) (.slice none 0 0) 0 0 0) (rV _) ?_)|((refine Great.wpList_boxTo rfl 187 (.tmp 24) rfl _ rfl w.heap.size (by simp[World.setCell]) (tA 0 (λ_=>false) (.slice none 0 0) 0 0 0) rfl ?_;generalize c:World.alloc _ _=w1;have t1:Tr w1 w.heap.size 0 (λ_=>false) (.slice none 0 0) 0 0 0:=rZ c (by simp[World.setCell]);have r1:Rd b w w1:=(by rw[<-c];exact r0.alloc _);have g1:Mk w1 b s t:=(by rw[<-c];exact g0.alloc _);have z1:w1.heap.size=w.heap.size+1:=(by rw[<-c];simp[World.setCell]))))
 obtain⟨C,hC⟩:=zx (λn=>!ax 10 10 n);have d:Hid (C=λn=>!ax 10 10 n):=hC
 go_loopw [5] (λi wq=>∃ j:Nat,j<=256/\i=.int .i64 j/\Mk wq b s t/\Rd b w wq/\Tr wq w.heap.size 0 (Ci (λ_=>false) C j) (.slice none 0 0) 0 0 0) (λi _=>256-(intOf i).toNat)
 case atStart=>exact⟨0,ω,rfl,g1,r1,t1.congr (λi _=>(rX (λ_=>false) C i).symm)⟩
 case round=>
  obtain⟨j,hj,rfl,g5,r5,t5⟩:=hrel
  by_cases a:j<256
  .have cT:=t5.cB j a;have fT:=t5.fz (1+j)
   by_cases q:j=10
   .subst q;have HV:Hid (C 10=false):=by show _=_;rw[d.out];decide
    go_wp2
    go_roundw
    case rel=>exact⟨10+1,ω,π,g5.set2 ω _,r5.setNew zq _,(t5.bit 10 a false).congr (λi _=>ns _ C 10 false HV i)⟩
    case measure=>simp[intOf]
   .have p:((j:Int) != 10)=true:=σ;have HV:Hid (C j=true):=by show _=_;rw[d.out];simp[ax];omega
    go_wp2
    go_roundw
    case rel=>exact⟨j+1,ω,π,g5.set2 ω _,r5.setNew zq _,(t5.bit j a true).congr (λi _=>ns _ C j true HV i)⟩
    case measure=>simp[intOf]<;>omega
  .have e:j=256:=ω;subst e;go_wp2
   go_ret
   exact fd.bytes rfl ⟨g5,r5⟩ (t5.congr (λi hi=>by rw[Cj _ C i hi,d.out])) zq
end Go.Proofs.YtbjabpodkaokjaaGreatDoor.Sx

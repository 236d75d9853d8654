import Derived.Test.YtbjabpodkaokjaaGreatDoorCC34
set_option linter.all false
set_option maxHeartbeats 4000000
set_option maxRecDepth 100000
open List Nat Go.World Go.Proofs.Tryz
namespace Go.Proofs.YtbjabpodkaokjaaGreatDoor.Sx
open Go.RowKit
variable {w:World}{b:Nat}{s:ByteArray}{r:List UInt8}{g N:Nat}{c:UInt8}{x y:World}{B:Nat}{r1 r':List UInt8}{T:RT}
def Ef {w W w3:World}{v:Value}{sg:Int} (hw:(W.alloc (.cells #[v] 100)).alloc (.cells (tA 3 (λ_=>false) (.slice (some ⟨N,0,none⟩) 1 1) 0 (-1) sg) 187)=w3) (hN:W.heap.size=N) (hm:Mk W b s r) (hr:Rd b w W) :
  Mk w3 b s r/\Rd b w w3/\Tr w3 (N+1) 3 (λ_=>false) (.slice (some ⟨N,0,none⟩) 1 1) 0 (-1) sg/\w3.heap[N]?=some (.cells #[v] 100 (0,0))/\(∀ k,k<N->w3.heap[k]?=W.heap[k]?)/\w3.heap.size=N+2:=by
 refine⟨by rw[<-hw];exact(hm.alloc _).alloc _,by rw[<-hw];exact(hr.alloc _).alloc _,rZ hw (by simp[hN]),?_,λk hk=>?_,by rw[<-hw];simp[hN]⟩
 .rw[<-hw,Ze _ _ _ σ,<-hN];exact Za _ _
 .rw[<-hw,Ze _ _ _ σ,Ze _ _ _ ω]
def r_ {w W w4:World}{B:Nat->Bool}{lo hi:Int} (hT:aV W (dn w.heap.size W) T g) (hN:W.heap.size=N) (hh:∀ k,k<N->k≠b->w4.heap[k]?=W.heap[k]?) (hrow:w4.heap[N]?=some (.cells #[.pointer (some ⟨g,0,none⟩)] 100 (0,0)))
  (tr:Tr w4 (N+1) 3 B (.slice (some ⟨N,0,none⟩) 1 1) lo hi c.toNat) (hwN:w.heap.size<=N) (hb:b<w.heap.size):aV w4 (dn w.heap.size w4) (.rep T c lo hi) (N+1):=by
 have hl:=tr.lt;simp only[aV];refine⟨⟨ω,hl⟩,B,_,tr,g,⟨χ,.inr ⟨N,1,#[.pointer (some ⟨g,0,none⟩)],rfl,⟨hwN,ω⟩,hrow,ω,Zs,χ,χ⟩⟩,aV.of_heap (λk hk hlt=>⟨⟨hk.1,ω⟩,hh k ω (η hk.1)⟩) T g hT⟩
def aV.still (h:aV x (dn B x) T g) (hl:Below x.heap.size x y):aV y (dn B y) T g:=
 aV.of_heap (λj hj hlt'=>⟨⟨hj.1,Zd hlt' hl.size⟩,hl.block j hlt'⟩) T g h
def aV.stillRd (h:aV x (dn B x) T g) (hl:Rd b x y) (hb:b<B):aV y (dn B y) T g:=
 aV.of_heap (λj hj hlt'=>⟨⟨hj.1,Zd hlt' hl.size⟩,hl.block j hlt' (η hj.1)⟩) T g h
abbrev Cl (b:Nat) (s:ByteArray) (r r':List UInt8) (T:RT):Prop:=∀ w,Mk w b s r->Calls prog 202 #[.pointer (some ⟨b,0,none⟩)] w λe w'=>fd w w' b s r' T e
def Jl (c:UInt8):Prop:=c=42\/c=43\/c=63\/c=123
def sO {m:Nat}{cs:List dw} (h:aJ m r1=.ok cs r') :
  (r1=[]/\cs=[]/\r'=[])\/(∃ c t,r1=c::t/\¬ Jl c/\cs=[]/\r'=c::t) \/
  (∃ c t m' d,r1=c::t/\(c=42\/c=43\/c=63)/\aJ m' t=.ok d r'/\cs=⟨c,0,0⟩::d) \/
  (∃ t a z r2 m' d,r1=123::t/\dO t=.ok (a,z) r2/\aJ m' r2=.ok d r'/\cs=⟨123,a,z⟩::d):=by
 cases m with
 |zero=>simp[aJ] at h
 |succ m=>
  match r1,h with
  |[],h=>simp only[aJ] at h;injection h with e1 e2;subst e1;subst e2;exact .inl ⟨rfl,rfl,rfl⟩
  |c::t,h=>
   simp only[aJ] at h
   split at h
   .rename_i q
    split at h
    .rename_i d r2 h2;injection h with e1 e2;subst e1;subst e2;exact .inr (.inr (.inl ⟨c,t,m,d,rfl,q,h2,rfl⟩))
    .simp at h
   .rename_i q
    split at h
    .rename_i q2;subst q2
     split at h
     .simp at h
     .rename_i a z r2 h2
      split at h
      .rename_i d r3 h3;injection h with e1 e2;subst e1;subst e2;exact .inr (.inr (.inr ⟨t,a,z,r2,m,d,rfl,h2,h3,rfl⟩))
      .simp at h
    .rename_i q2;injection h with e1 e2;subst e1;subst e2;refine .inr (.inl ⟨c,t,rfl,?_,rfl,rfl⟩);rintro(e|e|e|e)
     .exact q (.inl e)
     .exact q (.inr (.inl e))
     .exact q (.inr (.inr e))
     .exact q2 e
variable (w b s r r1 r') in
def Jm (T0 T9:RT) (m0:Nat) (cs0:List dw) (h:Mk w b s r) (hA:Cl b s r r1 T0) (hC:aJ m0 r1=.ok cs0 r') (h9:gD T0 cs0=T9) :
  Calls prog 190 #[.pointer (some ⟨b,0,none⟩)] w λe w'=>fd w w' b s r' T9 e:=by
 have q:=h.lt
 go_enter func190,ntmps190
 go_wp2_with (go_at_call 202;refine(hA _ h).mono ?_;rintro e w1 ⟨g,rfl,⟨g1,l1⟩,t1⟩)
 go_loopw [3] (λp wq=>∃(T:RT) (g:Nat) (rr:List UInt8) (m:Nat) (cs:List dw),p=.pointer (some ⟨g,0,none⟩)/\Mk wq b s rr/\Rd b w wq/\aV wq (dn w.heap.size wq) T g/\aJ m rr=.ok cs r'/\gD T cs=T9) (λ_ wq=>leftOf b s wq)
 case atStart=>exact⟨T0,g,r1,m0,cs0,rfl,g1,l1,t1,hC,h9⟩
 case round=>
  obtain⟨T,g,rr,m,cs,rfl,hm,n,hT,hP,u⟩:=hrel;have HT:Hid (aV wr (dn w.heap.size wr) T g):=hT;have HR:Hid (gD T cs=T9):=u;have HM:Hid (Mk wr b s rr):=hm;clear hT u hm hC h9 t1;rcases sO hP with⟨rfl,rfl,rfl⟩|⟨c,t,rfl,hc,rfl,rfl⟩|⟨c,t,m',f,rfl,rfl|rfl|rfl,i,rfl⟩|⟨t,a,z,r2,m',f,rfl,hB,i,rfl⟩
  .have hh:=dT wr b s _ HM.out;simp only[wg] at hh;go_wp2_with (go_at_call 86;refine hh.mono ?_;rintro e w2 ⟨rfl,g2,d⟩;obtain⟨k,c0,c1,hk,hs,sz,lt,fz⟩:=g2.cells;simp at hk)
   have C:(s.size:Int)<=k:=ω
   go_quiet (fail)
   go_wp2
   go_ret
   exact⟨g,rfl,⟨g2.drewN _,(n.trans (Rd.of_below d)).drewN _⟩,by rw[<-HR.out];exact HT.out.still (nF d _)⟩
  .have hh:=dT wr b s _ HM.out;simp only[wg] at hh;have q1:((c.toNat:Int) != 42)=true:=by have:=ii (c:=c) (k:=42) (λe=>hc (.inl e));simp at this ⊢;exact this
   have q2:((c.toNat:Int) != 43)=true:=by have:=ii (c:=c) (k:=43) (λe=>hc (.inr (.inl e)));simp at this ⊢;exact this
   have q3:((c.toNat:Int) != 63)=true:=by have:=ii (c:=c) (k:=63) (λe=>hc (.inr (.inr (.inl e))));simp at this ⊢;exact this
   have q4:((c.toNat:Int) != 123)=true:=by have:=ii (c:=c) (k:=123) (λe=>hc (.inr (.inr (.inr e))));simp at this ⊢;exact this
   clear hc;go_wp2_with (go_at_call 86;refine hh.mono ?_;rintro e w2 ⟨rfl,g2,d⟩;obtain⟨k,F,e1,c0,c1,hk,sz,lt,fz⟩:=g2.byte)
   have C:¬(s.size:Int)<=k:=ω
   go_quiet (fail)
   go_wp2
   go_ret
   exact⟨g,rfl,⟨g2.drewN _,(n.trans (Rd.of_below d)).drewN _⟩,by rw[<-HR.out];exact HT.out.still (nF d _)⟩
  all_goals
   try (have E:=λw g B kv mn mx sg hw hT hne=>D9 w b g s t r2 a z B kv mn mx sg hw hT hne hB)
   try (have J:=gA hB)
   have hh:=dT wr b s _ HM.out;simp only[wg] at hh;go_wp2_with (go_at_call 86;refine hh.mono ?_;rintro e w2 ⟨rfl,g2,d⟩;obtain⟨k,F,e1,c0,c1,hk,sz,lt,fz⟩:=g2.byte)
   have C:¬(s.size:Int)<=k:=ω
   go_quiet (fail)
   have HW:Hid (aV ((w2.drewN nq).setCell ⟨b,1,none⟩ (.int .i64 ((k:Int)+1))) (dn w.heap.size ((w2.drewN nq).setCell ⟨b,1,none⟩ (.int .i64 ((k:Int)+1)))) T g):=(HT.out.still (nF d nq)).stillRd ((Rd.refl b _).setCell _ _) q;have H:=(g2.drewN nq).next hk;have G:Rd b w ((w2.drewN nq).setCell ⟨b,1,none⟩ (.int .i64 ((k:Int)+1))):=((n.trans (Rd.of_below d)).drewN nq).setCell _ _;clear g2;go_wp2_with (first|(go_at_call 203;refine(E _ _ _ _ _ _ _ g3 t3 (ξ n.size d.size)).mono ?_;rintro e w5 ⟨rfl,g5,t5,r5⟩)|(first|(refine wpList_buildTo rfl 187 #[(0,.const (.int .i64 3)),(2,.tmp 45),(5,.tmp 46),(4,.const (.int .i64 (-1)))] rfl _ rfl (tA 3 (λ_=>false) (.slice (some ⟨w2.heap.size,0,none⟩) 1 1) 0 (-1) _) (tA_rep (some ⟨w2.heap.size,0,none⟩) 1 1 _) ?_)|(refine Great.wpList_boxTo rfl 187 (.tmp 47) rfl _ rfl (w2.heap.size+1) (by simp[World.setCell]) (tA 3 (λ_=>false) (.slice (some ⟨w2.heap.size,0,none⟩) 1 1) 0 (-1) _) rfl ?_;generalize D:World.alloc (World.alloc _ _) _=w3;obtain⟨g3,r3,t3,l,h3,z3⟩:=Ef D (by simp[World.setCell]) H G;clear D;have I:=t3;obtain⟨u0,uB,uk,um,ux,us,uf⟩:=I)))
   have A:=Zc n.size d.size
   first
   |(have HQ:Hid (aV w5 (dn w.heap.size w5) (.rep T 123 a z) (w2.heap.size+1)):=r_ (b:=b) HW.out (by simp[World.setCell]) (λj hj hjb=>(r5.block j ω hjb ω).trans (h3 j hj)) ((r5.block _ ω ω ω).trans l) t5 A q
     have r6:Rd b w w5:=⟨r5.os.trans r3.os,r5.tape.trans r3.tape,r5.output.trans r3.output,Zc r3.size r5.size,λj hj hjb=>(r5.block j (Zd hj r3.size) hjb ω).trans (r3.block j hj hjb)⟩
     go_roundw
     case rel=>exact⟨.rep T 123 a z,w2.heap.size+1,r2,m',f,rfl,g5,r6,HQ.out,i,HR.out⟩
     case measure=>rw[g5.left,HM.out.left];simp;omega)
   |(have HQ:Hid (aV w3 (dn w.heap.size w3) (.rep T 42 0 (-1)) (w2.heap.size+1)):=r_ (b:=b) HW.out (by simp[World.setCell]) (λj hj _=>h3 j hj) l t3 A q
     clear u0 uB uk um ux us uf
     go_roundw
     case rel=>exact⟨.rep T 42 0 (-1),w2.heap.size+1,t,m',f,rfl,g3,r3,HQ.out,i,HR.out⟩
     case measure=>rw[g3.left,HM.out.left];simp)
   |(have HQ:=λ(c:UInt8) o v {B:Nat->Bool} {lo hi} (tr:Tr (w3.setCell ⟨w2.heap.size+1,o,none⟩ (.int .i64 v)) (w2.heap.size+1) 3 B (.slice (some ⟨w2.heap.size,0,none⟩) 1 1) lo hi c.toNat)=>r_ (b:=b) HW.out (by simp[World.setCell]) (λj hj _=>(Zf _ _ _ _ σ).trans (h3 j hj)) ((Zf _ _ _ _ χ).trans l) tr A q
     clear u0 uB uk um ux us uf
     go_roundw
     case rel=>first|exact⟨.rep T 43 1 (-1),w2.heap.size+1,t,m',f,rfl,g3.set2 ω _,r3.setNew σ _,HQ 43 _ _ (t3.least 1),i,HR.out⟩|exact⟨.rep T 63 0 1,w2.heap.size+1,t,m',f,rfl,g3.set2 ω _,r3.setNew σ _,HQ 63 _ _ (t3.most 1),i,HR.out⟩
     case measure=>rw[(g3.set2 ω _).left,HM.out.left];simp)
end Go.Proofs.YtbjabpodkaokjaaGreatDoor.Sx

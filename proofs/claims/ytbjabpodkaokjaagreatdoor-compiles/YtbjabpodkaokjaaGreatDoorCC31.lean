import Derived.Test.YtbjabpodkaokjaaGreatDoorCC30
import Derived.Deep.RegionWith
set_option linter.all false
set_option maxHeartbeats 4000000
set_option maxRecDepth 100000
open List Nat Go.World Go.Proofs.Tryz
namespace Go.Proofs.YtbjabpodkaokjaaGreatDoor.Sx
open Go.RowKit
variable {B:Nat}{s:ByteArray}{w:World}{b:Nat}{m:Md}
structure jM (w:World) (b:Nat) (m:Md):Prop where
 c0:w.cell? ⟨b,0,none⟩=some (.int .i64 m.M)
 c1:w.cell? ⟨b,1,none⟩=some (.int .i64 m.Depth)
 c2:w.cell? ⟨b,2,none⟩=some (.int .i64 m.Most)
 c3:w.cell? ⟨b,3,none⟩=some (.bool m.Class)
 c4:w.cell? ⟨b,4,none⟩=some (.int .i64 m.Low)
 c5:w.cell? ⟨b,5,none⟩=some (.int .i64 m.Value)
 c6:w.cell? ⟨b,6,none⟩=some (.int .i64 m.Least)
 c7:w.cell? ⟨b,7,none⟩=some (.int .i64 m.N)
 fz:∀ o,w.frozen? ⟨b,o,none⟩=false
def jM.carry {w w':World} (h:jM w b m) (hb:Below B w w') (hB:b<B):jM w' b m:=
 ⟨(hb.cell hB).trans h.c0,(hb.cell hB).trans h.c1,(hb.cell hB).trans h.c2,(hb.cell hB).trans h.c3,(hb.cell hB).trans h.c4,(hb.cell hB).trans h.c5,(hb.cell hB).trans h.c6,(hb.cell hB).trans h.c7,λo=>(hb.frozen (p:=⟨b,o,none⟩) hB).trans (h.fz o)⟩
def iR (w:World) (b:Nat) (m:Md):World:=
 (((((((w.setCell ⟨b,0,none⟩ (.int .i64 m.M)).setCell ⟨b,1,none⟩ (.int .i64 m.Depth)).setCell ⟨b,2,none⟩ (.int .i64 m.Most)).setCell ⟨b,3,none⟩ (.bool m.Class)).setCell ⟨b,4,none⟩ (.int .i64 m.Low)).setCell ⟨b,5,none⟩ (.int .i64 m.Value)).setCell ⟨b,6,none⟩ (.int .i64 m.Least)).setCell ⟨b,7,none⟩ (.int .i64 m.N)
def AW (h:jM w b m) (m':Md):jM (iR w b m') b m':=by
 obtain⟨q0,q1,q2,q3,q4,q5,q6,q7,qf⟩:=h;unfold iR
 constructor<;>(try intro o)<;>simp[q0,q1,q2,q3,q4,q5,q6,q7,qf,go_sem]
def sM {w0 w:World} (h:Below B w0 w) (hb:B<=b) (m:Md):Below B w0 (iR w b m):=by
 unfold iR;exact((((((((h.setCell hb _).setCell hb _).setCell hb _).setCell hb _).setCell hb _).setCell hb _).setCell hb _).setCell hb _)
variable (w b m) in
theorem vT:(iR w b m).heap.size=w.heap.size:=by simp[iR]
variable (s w) in
def yy (hs:s.size<=maxLen) (h:200<s.size) :
  Calls prog 44 #[.string s] w λe w'=>e=.returned (.tuple #[.int .i64 4,.int .i64 0])/\w'=w:=by
 unfold maxLen at hs
 go_enter func44,ntmps44
 go_wp2
 go_ret2
 exact⟨rfl,rfl⟩
variable (s w) in
def AX (hs:s.size<=200) :
  Calls prog 44 #[.string s] w λe w'=>∃ x p,e=.returned (.tuple #[.int .i64 x,.int .i64 p])/\LT s.data.toList x p/\Below w.heap.size w w':=by
 go_enter func44,ntmps44
 go_wp2
 go_loopw [5] (λi wr=>∃ k:Nat,k<=s.size/\i=.int .i64 k/\jM wr w.heap.size (runAll Md.init (s.data.toList.take k))/\(runAll Md.init (s.data.toList.take k)).M≠16/\Below w.heap.size w wr/\w.heap.size<wr.heap.size) (λi _=>s.size-(intOf i).toNat)
 case atStart=>
  refine⟨0,Zk _,rfl,?_,?_,?_,?_⟩
  .constructor<;>simp[runAll,Md.init,go_sem]
  .simp[runAll,Md.init]
  .exact(Ψ ZB)
  .simp
 case round=>
  obtain⟨k,hk,rfl,hm,d,c,f⟩:=hrel;have l:=Md.Ok_init.runAll (s.data.toList.take k);obtain⟨m,h⟩:=zx (runAll Md.init (s.data.toList.take k));rw[<-h] at hm d l;have HM:=zh h;clear h;obtain⟨M,D,Mo,C,L,V,Le,N⟩:=m;have n:jM wr.drew w.heap.size ⟨M,D,Mo,C,L,V,Le,N⟩:=⟨hm.c0,hm.c1,hm.c2,hm.c3,hm.c4,hm.c5,hm.c6,hm.c7,hm.fz⟩
  obtain⟨c0,c1,c2,c3,c4,c5,c6,c7,fz⟩:=hm
  simp only at c0 c1 c2 c3 c4 c5 c6 c7 d
  have t:((s.data.toList.take k).length:Int)<=200:=σ;obtain⟨m0,m1,d0,d1,o0,o1,v0,v1,e0,e1,n0,n1,x5⟩:=l
  simp only at m0 m1 d0 d1 o0 o1 v0 v1 e0 e1 n0 n1 x5
  clear x5
  by_cases hlt:k<s.size
  .have g:(s[k].toNat:Int)<=255:=by have:=(s[k]).toNat_lt;omega
   go_wp2
   go_region_with (first|(go_at_call 85;refine(G8 _ _ _ _ _ _ _ _ _ _ ω g ω ω ω ω ω ω ω ω ω ω).mono ?_;rintro e w' ⟨rfl,hb⟩;obtain⟨q0,q1,q2,q3,q4,q5,q6,q7,qf⟩:=jM.carry (b:=w.heap.size) (m:=⟨M,D,Mo,C,L,V,Le,N⟩) n hb f))
   all_goals
    obtain⟨R,hR⟩:=zx (Md.step ⟨M,D,Mo,C,L,V,Le,N⟩ (s[k].toNat:Int));rw[<-hR];obtain⟨W2,hW⟩:=zx (iR w' w.heap.size R);have q:jM W2 w.heap.size R:=by rw[hW];exact AW (m:=⟨M,D,Mo,C,L,V,Le,N⟩) ⟨q0,q1,q2,q3,q4,q5,q6,q7,qf⟩ R
    have j:Below w.heap.size w W2:=by rw[hW];exact sM ((c.drew).trans (hb.mono (Nat.le_of_lt f))) zq R
    have r:w.heap.size<W2.heap.size:=by rw[hW,vT];exact Zd f hb.size
    simp only[iR] at hW;rw[<-hW];have HR:Hid (R=runAll Md.init (s.data.toList.take (k+1))):=by
     have e:=HM;have ht:s.data.toList.take (k+1)=s.data.toList.take k++[s[k]]:=by
      rw[Zl (by simpa using hlt)];rfl
     show R=_;rw[ht,kc,<-e,hR]
    clear hW hR q0 q1 q2 q3 q4 q5 q6 q7 qf hb c0 c1 c2 c3 c4 c5 c6 c7 fz n;obtain⟨c0,c1,c2,c3,c4,c5,c6,c7,fz⟩:=q
    by_cases hbr:R.M=16
    .have o:(R.M==16)=true:=by simpa using hbr
     go_wp2
     go_ret2
     refine⟨_,_,rfl,.inr (.inl ⟨by simpa using hs,k,⟨by simpa using hlt,?_,?_⟩,rfl,rfl⟩),j⟩
     .rw[<-HR.out];exact hbr
     .rw[<-HM.out];exact d
    .have o:(R.M==16)=false:=by simpa using hbr
     go_wp2
     go_roundw
     case rel=>exact⟨k+1,ω,π,by rw[<-HR.out];exact⟨c0,c1,c2,c3,c4,c5,c6,c7,fz⟩,by rw[<-HR.out];exact hbr,j,r⟩
     case measure=>simp[intOf];omega
  .have u:k=s.size:=ω;have ht:s.data.toList.take k=s.data.toList:=take_of_length_le σ;have a:Hid (runAll Md.init s.data.toList=⟨M,D,Mo,C,L,V,Le,N⟩):=by
    have:=HM;rw[ht] at this;exact this.symm
   clear ht HM;have hl:s.data.toList.length<=200:=by simpa using hs
   by_cases p1:0<D
   .go_wp2
    go_ret2
    exact⟨_,_,rfl,.inr (.inr (.inl ⟨hl,by rw[a.out];exact d,by rw[a.out];exact .inl p1,rfl,χ⟩)),c⟩
   .by_cases p2:M=0\/M=1\/M=2\/M=15
    .by_cases p3:20<Mo
     .rcases p2 with rfl|rfl|rfl|rfl
      all_goals
       go_wp2
       go_ret2
       exact⟨_,_,rfl,.inr (.inr (.inr (.inl ⟨hl,by rw[a.out];simp;omega,by rw[a.out];simp,by rw[a.out];exact p3,rfl,rfl⟩))),c⟩
     .rcases p2 with rfl|rfl|rfl|rfl
      all_goals
       go_wp2
       go_ret2
       exact⟨_,_,rfl,.inr (.inr (.inr (.inr ⟨hl,by rw[a.out];simp;omega,by rw[a.out];simp,by rw[a.out];simp;omega,rfl,rfl⟩))),c⟩
    .have a1:(M != 0)=true:=σ;have a2:(M != 1)=true:=σ;have a3:(M != 2)=true:=σ;have a4:(M != 15)=true:=σ;go_wp2
     go_ret2
     exact⟨_,_,rfl,.inr (.inr (.inl ⟨hl,by rw[a.out];exact d,by rw[a.out];simp;omega,rfl,χ⟩)),c⟩
end Go.Proofs.YtbjabpodkaokjaaGreatDoor.Sx

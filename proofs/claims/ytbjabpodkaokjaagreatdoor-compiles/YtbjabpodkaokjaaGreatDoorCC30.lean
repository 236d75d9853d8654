import Derived.Test.YtbjabpodkaokjaaGreatDoorCC27
import Derived.Test.YtbjabpodkaokjaaGreatDoorCC28
import Derived.Test.YtbjabpodkaokjaaGreatDoorCC29
set_option linter.all false
set_option maxHeartbeats 4000000
set_option maxRecDepth 100000
open List Nat Go.World Go.Proofs.Tryz
namespace Go.Proofs.YtbjabpodkaokjaaGreatDoor.Sx
open Go.RowKit
variable {M D Mo:Int}{C:Bool}{L V Le N c:Int}{w:World}
variable (M D Mo C L V Le N c w) in
def D7 (g0:0<=c) (g1:c<=255) (hM:M=11\/M=12\/M=13\/M=14)
  (n0:0<=N) (n1:N<=30) (l0:0<=Le) (l1:Le<=30) :
  Calls prog 153 #[se M D Mo C L V Le N,.int .u8 c] w λe w'=>e=.returned (mv (Md.count ⟨M,D,Mo,C,L,V,Le,N⟩ c))/\Below w.heap.size w w':=by
 by_cases h:48<=c/\c<=57
 .exact yv M D Mo C L V Le N c w h.1 h.2 hM n0 n1 l0 l1
 .exact yw M D Mo C L V Le N c w g0 g1 ω hM n0 n1 l0 l1
def Jk (c:Int):-1<=fP c/\fP c<=15:=by unfold fP;(repeat' split)<;>omega
variable (M D Mo C L V Le N c w) in
def G8 (g0:0<=c) (g1:c<=255) (m0:0<=M) (m1:M<=16) (d0:0<=D) (d1:D<=1000)
  (n0:0<=N) (n1:N<=30) (l0:0<=Le) (l1:Le<=30) (v0:0<=V) (v1:V<=255) :
  Calls prog 85 #[se M D Mo C L V Le N,.int .u8 c] w λe w'=>e=.returned (mv (Md.step ⟨M,D,Mo,C,L,V,Le,N⟩ c))/\Below w.heap.size w w':=by
 obtain⟨R,hR⟩:∃ R,R=Md.step ⟨M,D,Mo,C,L,V,Le,N⟩ c:=⟨_,rfl⟩
 rw[<-hR];have HR:Hid (R=Md.step ⟨M,D,Mo,C,L,V,Le,N⟩ c):=hR;clear hR;obtain⟨h,hh⟩:∃ h,h=fP c:=⟨_,rfl⟩
 have hx:∀ w,Calls prog 146 #[.int .u8 c] w λe w'=>e=.returned (.int .i64 h)/\w'=w:=λw=>by rw[hh];exact uA c w g0 g1
 have a:=Jk c;rw[<-hh] at a;obtain⟨x0,x1⟩:=a;have HH:Hid (h=fP c):=hh;clear hh;have hM:M=0\/M=1\/M=2\/M=3\/M=4\/M=5\/M=6\/M=7\/M=8\/M=9\/M=10\/M=11\/M=12\/M=13\/M=14\/M=15\/M=16:=ω;clear m0 m1;rcases hM with rfl|rfl|rfl|rfl|rfl|rfl|rfl|rfl|rfl|rfl|rfl|rfl|rfl|rfl|rfl|rfl|rfl
 all_goals
  go_enter func85,ntmps85
  go_wp2_with (first|(go_at_call 146;refine(hx _).mono ?_;rintro e w' ⟨rfl,rfl⟩)|(go_at_call 149;refine(ip _ _ _ _ _ _ _ _ _ _).mono ?_;rintro e w' ⟨rfl,hb⟩;obtain⟨hc,hf⟩:=fe hb;have hz:=hb.size;simp at hz)|(go_at_call 147;refine(D6 _ _ _ _ _ _ _ _ _ _ ω ω ω ω).mono ?_;rintro e w' ⟨rfl,hb⟩;obtain⟨hc,hf⟩:=fe hb;have hz:=hb.size;simp at hz)|(go_at_call 148;refine(yL _ _ _ _ _ _ _ _ _ _ ω ω).mono ?_;rintro e w' ⟨rfl,hb⟩;obtain⟨hc,hf⟩:=fe hb;have hz:=hb.size;simp at hz)|(go_at_call 150;refine(Bb _ _ _ _ _ _ _ _ _ _).mono ?_;rintro e w' ⟨rfl,hb⟩;obtain⟨hc,hf⟩:=fe hb;have hz:=hb.size;simp at hz)|(go_at_call 151;refine(Jh _ _ _ _ _ _ _ _ _ _ ω ω).mono ?_;rintro e w' ⟨rfl,hb⟩;obtain⟨hc,hf⟩:=fe hb;have hz:=hb.size;simp at hz)|(go_at_call 152;refine(jr _ _ _ _ _ _ _ _ _ _).mono ?_;rintro e w' ⟨rfl,hb⟩;obtain⟨hc,hf⟩:=fe hb;have hz:=hb.size;simp at hz)|(go_at_call 153;refine(D7 _ _ _ _ _ _ _ _ _ _ ω ω ω ω ω ω ω).mono ?_;rintro e w' ⟨rfl,hb⟩;obtain⟨hc,hf⟩:=fe hb;have hz:=hb.size;simp at hz))
  all_goals
   have hR:=HR.out;have hh:=HH.out.symm;clear HR HH hx
   go_light
   by_cases q1:h<0<;>by_cases q2:16*h+15<L<;>by_cases q3:16*V+h<L<;>first|(exfalso;omega)|first|(have b:=hb;refine Zb (v:=mv R) ?_ rfl ⟨rfl,(ι b ZB)⟩;subst hR;simp[results,results85,go_sem,hc,hz,Md.step,Md.to, *]<;>(clear hb hc hf hz;first|omega|simp_all))|(refine Zb (v:=mv R) ?_ rfl ⟨rfl,(Ψ ZB)⟩;subst hR;simp[results,results85,go_sem,Md.step,Md.to, *]<;>first|omega|simp_all)
end Go.Proofs.YtbjabpodkaokjaaGreatDoor.Sx

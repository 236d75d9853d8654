import Derived.Test.YtbjabpodkaokjaaGreatDoorCC01
set_option linter.all false
set_option maxHeartbeats 4000000
set_option maxRecDepth 100000
open List Nat Go.World Go.Proofs.Tryz
namespace Go.Proofs.YtbjabpodkaokjaaGreatDoor.Sx
open Go.RowKit
variable {M D Mo:Int}{C:Bool}{L V Le N c:Int}{w:World}
variable (M D Mo C L V Le N c w) in
def Jh (g0:0<=c) (g1:c<=255) :
  Calls prog 151 #[se M D Mo C L V Le N,.int .u8 c] w λe w'=>e=.returned (mv (Md.cls ⟨M,D,Mo,C,L,V,Le,N⟩ c))/\Below w.heap.size w w':=by
 obtain⟨R,hR⟩:=zx (Md.cls ⟨M,D,Mo,C,L,V,Le,N⟩ c);rw[<-hR];have HR:=zh hR;clear hR
 go_enter func151,ntmps151
 go_wp2_with (first|(go_at_call 149;refine(ip _ _ _ _ _ _ _ _ _ _).mono ?_;rintro e w' ⟨rfl,hb⟩;obtain⟨hc,hf⟩:=fe hb;have hz:=hb.size;simp at hz)|(go_at_call 152;refine(jr _ _ _ _ _ _ _ _ _ _).mono ?_;rintro e w' ⟨rfl,hb⟩;obtain⟨hc,hf⟩:=fe hb;have hz:=hb.size;simp at hz))
 all_goals
  have hR:=HR;clear HR
  go_light
  refine Zb (v:=mv R) ?_ rfl ⟨rfl,(ι hb ZB)⟩;subst hR;simp[results,results151,go_sem,Md.cls,Md.to, *]<;>(clear hb hc hf hz;simp_all)
variable (M D Mo C L V Le N c w) in
def D5 (g0:0<=c) (g1:c<=255) (d0:0<=D) (d1:D<=1000) :
  Calls prog 186 #[se M D Mo C L V Le N,.int .u8 c] w λe w'=>e=.returned (mv (Md.group ⟨M,D,Mo,C,L,V,Le,N⟩ c))/\Below w.heap.size w w':=by
 obtain⟨R,hR⟩:=zx (Md.group ⟨M,D,Mo,C,L,V,Le,N⟩ c);rw[<-hR];have HR:=zh hR;clear hR
 go_enter func186,ntmps186
 go_wp2_with (go_at_call 149;refine(ip _ _ _ _ _ _ _ _ _ _).mono ?_;rintro e w' ⟨rfl,hb⟩;obtain⟨hc,hf⟩:=fe hb;have hz:=hb.size;simp at hz)
 all_goals
  have hR:=HR;clear HR
  go_light
  refine Zb (v:=mv R) ?_ rfl ⟨rfl,(ι hb ZB)⟩;subst hR
  by_cases hL:Mo<D+1<;>first|(exfalso;omega)|simp[results,results186,go_sem,Md.group,Md.to, *]
def Ψ {P U:Prop} (h:U) (k:U->P:=by intro h;(repeat refine Below.setCell ?_ ψ _);(repeat refine Below.alloc ?_ ψ _);exact h):P:=k h
variable (M D Mo C L V Le N c w) in
def D6 (g0:0<=c) (g1:c<=255) (d0:0<=D) (d1:D<=1000) :
  Calls prog 147 #[se M D Mo C L V Le N,.int .u8 c] w λe w'=>e=.returned (mv (Md.chain ⟨M,D,Mo,C,L,V,Le,N⟩ c))/\Below w.heap.size w w':=by
 obtain⟨R,hR⟩:=zx (Md.chain ⟨M,D,Mo,C,L,V,Le,N⟩ c);rw[<-hR];have HR:=zh hR;clear hR
 go_enter func147,ntmps147
 go_wp2_with (first|(go_at_call 149;refine(ip _ _ _ _ _ _ _ _ _ _).mono ?_;rintro e w' ⟨rfl,hb⟩;obtain⟨hc,hf⟩:=fe hb;have hz:=hb.size;simp at hz)|(go_at_call 186;refine(D5 _ _ _ _ _ _ _ _ _ _ ω ω ω ω).mono ?_;rintro e w' ⟨rfl,hb⟩;obtain⟨hc,hf⟩:=fe hb;have hz:=hb.size;simp at hz))
 all_goals
  have hR:=HR;clear HR
  go_light
  first|(have a:=hb;refine Zb (v:=mv R) ?_ rfl ⟨rfl,(ι a ZB)⟩;subst hR;simp[results,results147,go_sem,Md.chain,Md.to, *]<;>(clear hb hc hf hz;first|omega|simp_all))|(refine Zb (v:=mv R) ?_ rfl ⟨rfl,(Ψ ZB)⟩;subst hR;simp[results,results147,go_sem,Md.chain, *]<;>first|omega|simp_all)
end Go.Proofs.YtbjabpodkaokjaaGreatDoor.Sx

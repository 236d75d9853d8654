import Derived.Test.YtbjabpodkaokjaaGreatDoorCC01
set_option linter.all false
set_option maxHeartbeats 4000000
set_option maxRecDepth 100000
open List Nat Go.World Go.Proofs.Tryz
namespace Go.Proofs.YtbjabpodkaokjaaGreatDoor.Sx
open Go.RowKit
def Ji (m:Md) (c:Int) (h1:48<=c) (h2:c<=57):Md.count m c =
  if di (c-48+(if m.M=12\/m.M=14 then 10*m.N else 0)) (if m.M=13\/m.M=14 then m.Least else 0)&&(m.M==11||m.M==13) then {m with N:=(c-48+(if m.M=12\/m.M=14 then 10*m.N else 0)),M:=m.M+1}
  else if di (c-48+(if m.M=12\/m.M=14 then 10*m.N else 0)) (if m.M=13\/m.M=14 then m.Least else 0)&&decide (0<m.N)&&(m.M==12||m.M==14) then {m with N:=(c-48+(if m.M=12\/m.M=14 then 10*m.N else 0))}
  else m.to 16:=by
 have a:(c==44)=false:=σ;have b:(c==125)=false:=σ;simp[Md.count,h1,h2,a,b]
def Ω {P U:Prop} (h:U) (k:U->P:=by intro h;(repeat refine Below.setCell ?_ ψ _);(repeat refine Below.alloc ?_ ψ _);exact h):P:=k h
def yv (M D Mo:Int) (C:Bool) (L V Le N c:Int) (w:World) (hd1:48<=c) (hd2:c<=57) (hM:M=11\/M=12\/M=13\/M=14)
  (n0:0<=N) (n1:N<=30) (l0:0<=Le) (l1:Le<=30) :
  Calls prog 153 #[se M D Mo C L V Le N,.int .u8 c] w λe w'=>e=.returned (mv (Md.count ⟨M,D,Mo,C,L,V,Le,N⟩ c))/\Below w.heap.size w w':=by
 obtain⟨R,hR⟩:=zx (Md.count ⟨M,D,Mo,C,L,V,Le,N⟩ c);rw[<-hR];rw[Ji _ c hd1 hd2] at hR;have HR:Hid _:=hR;clear hR;rcases hM with rfl|rfl|rfl|rfl
 all_goals
  go_enter func153,ntmps153
  go_wp2_with (first|(go_at_call 188;refine(oE _ _ _ ω ω ω ω).mono ?_;rintro e w' ⟨rfl,rfl⟩)|(go_at_call 149;refine(ip _ _ _ _ _ _ _ _ _ _).mono ?_;rintro e w' ⟨rfl,hb⟩;obtain⟨hc,hf⟩:=fe hb;have hz:=hb.size;simp at hz))
  all_goals
   have hR:=HR;clear HR
   go_light
   by_cases hN:0<N<;>first|(exfalso;omega)|first|(have a:=hb;refine Zb (v:=mv R) ?_ rfl ⟨rfl,(ι a ZB)⟩;subst hR;simp[results,results153,go_sem,Md.to, *]<;>(clear hb hc hf hz;first|omega|simp_all))|(refine Zb (v:=mv R) ?_ rfl ⟨rfl,(Ω ZB)⟩;subst hR;simp[results,results153,go_sem, *]<;>first|omega|simp_all)
end Go.Proofs.YtbjabpodkaokjaaGreatDoor.Sx

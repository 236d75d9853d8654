import Derived.Test.YtbjabpodkaokjaaGreatDoorCC01
set_option linter.all false
set_option maxHeartbeats 4000000
set_option maxRecDepth 100000
open List Nat Go.World Go.Proofs.Tryz
namespace Go.Proofs.YtbjabpodkaokjaaGreatDoor.Sx
open Go.RowKit
def Jj (m:Md) (c:Int) (h:¬(48<=c/\c<=57)):Md.count m c =
  if c==44&&m.M==12 then {m with Least:=m.N,M:=13}
 else if c==125&&(m.M==12||m.M==13||(m.M==14&&decide (m.Least<=m.N))) then m.to 2
 else m.to 16:=by
 have hd:(decide (48<=c)&&decide (c<=57))=false:=by rw[Bool.eq_false_iff];simpa using h
 simp only[Md.count,hd]
 simp
def ϕ {P U:Prop} (h:U) (k:U->P:=by intro h;(repeat refine Below.setCell ?_ ψ _);(repeat refine Below.alloc ?_ ψ _);exact h):P:=k h
def yw (M D Mo:Int) (C:Bool) (L V Le N c:Int) (w:World) (g0:0<=c) (g1:c<=255) (hd:c<48\/57<c) (hM:M=11\/M=12\/M=13\/M=14)
  (n0:0<=N) (n1:N<=30) (l0:0<=Le) (l1:Le<=30) :
  Calls prog 153 #[se M D Mo C L V Le N,.int .u8 c] w λe w'=>e=.returned (mv (Md.count ⟨M,D,Mo,C,L,V,Le,N⟩ c))/\Below w.heap.size w w':=by
 obtain⟨R,hR⟩:=zx (Md.count ⟨M,D,Mo,C,L,V,Le,N⟩ c);rw[<-hR];rw[Jj _ c ω] at hR;have HR:Hid _:=hR;clear hR;rcases hd with hd|hd
 all_goals
  rcases hM with rfl|rfl|rfl|rfl
  all_goals
   go_enter func153,ntmps153
   go_wp2_with (first|(go_at_call 188;refine(oE _ _ _ ω ω ω ω).mono ?_;rintro e w' ⟨rfl,rfl⟩)|(go_at_call 149;refine(ip _ _ _ _ _ _ _ _ _ _).mono ?_;rintro e w' ⟨rfl,hb⟩;obtain⟨hc,hf⟩:=fe hb;have hz:=hb.size;simp at hz))
   all_goals
    have hR:=HR;clear HR
    go_light
    by_cases hln:Le<=N<;>first|(exfalso;omega)|first|(have a:=hb;refine Zb (v:=mv R) ?_ rfl ⟨rfl,(ι a ZB)⟩;subst hR;simp[results,results153,go_sem,Md.to, *]<;>(clear hb hc hf hz;first|omega|simp_all))|(refine Zb (v:=mv R) ?_ rfl ⟨rfl,(ϕ ZB)⟩;subst hR;simp[results,results153,go_sem,Md.to, *]<;>first|omega|simp_all)
end Go.Proofs.YtbjabpodkaokjaaGreatDoor.Sx

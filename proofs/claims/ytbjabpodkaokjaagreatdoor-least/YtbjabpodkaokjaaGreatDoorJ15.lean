import Derived.WalkKit
import Derived.Maps.AppendAt
import Derived.Deep.RegionLaw
import Derived.Deep.Draws
import Derived.Below
set_option linter.unusedVariables false
set_option linter.unusedSimpArgs false
set_option maxHeartbeats 4000000
set_option maxRecDepth 100000
namespace Go.Proofs.YtbjabpodkaokjaaGreatDoor.Sx
open Go
theorem wp_scope_once {P:Program}{a:Act}{w:World}{Q:Exit→Act→World→Prop}{c rest:Code} (l:Nat) (J:Act→World→Prop) (μ:Act→World→Nat)
  (hf:findLabel c l=some (Code.skip.seq rest))
  (first:(∀ a w,J a w→rest.wp P (Exit.jump l J Q) a w)→c.wp P (Exit.jump l J Q) a w)
  (pass:∀ a w,J a w→rest.wp P (Exit.jump l (fun a' w'=>J a' w'∧μ a' w'<μ a w) Q) a w):(Code.scope c).wp P Q a w:=by
 refine wp_scope_jumps l J μ hf (first fun a w hJ=>?_) (fun a w hJ=>?_)
 ·refine wp_mono (pass a w hJ) ?_
  intro e a' w' h
  cases e<;>first|exact h|exact⟨h.1,h.2.1⟩
 ·apply wp_seq
  apply wp_skip
  exact pass a w hJ
structure Grew (w w':World) (v v':Value):Prop where
 g:w.grownBy w' v.ownBlock
 o:v'.ownBlock=v.ownBlock∨∃ k,v'.ownBlock=some k∧w.heap.size≤k
theorem grownBy_refl (w:World) (r:Option Nat):w.grownBy w r:=⟨rfl,rfl,rfl,Nat.le_refl _,fun _ _ _=>rfl⟩
theorem Grew.refl (w:World) (v:Value):Grew w w v v:=⟨grownBy_refl _ _,.inl rfl⟩
theorem Grew.trans {w w1 w2:World}{v v1 v2:Value} (h:Grew w w1 v v1) (k:Grew w1 w2 v1 v2):Grew w w2 v v2:=by
 obtain⟨hg,ho⟩:=h
 obtain⟨kg,ko⟩:=k
 have hs:=hg.size
 refine⟨⟨kg.os.trans hg.os,kg.tape.trans hg.tape,kg.output.trans hg.output,Nat.le_trans hg.size kg.size,fun j hj hne=>?_⟩,?_⟩
 ·refine(kg.block j (by omega) ?_).trans (hg.block j hj hne)
  rcases ho with e|⟨k,e,hk⟩
  ·rw[e];exact hne
  ·rw[e];intro q;injection q with q;omega
 ·rcases ko with e|⟨k,e,hk⟩
  ·rw[e];exact ho.imp id id
  ·exact .inr ⟨k,e,by omega⟩
theorem Grew.alloc {w w1:World}{v v1:Value} (h:Grew w w1 v v1) (o:Obj):Grew w (w1.alloc o) v v1:=
 h.trans ⟨⟨rfl,rfl,rfl,by simp,fun k hk _=>Go.RowKit.Below.heap_alloc _ _ _ hk⟩,.inl rfl⟩
end Go.Proofs.YtbjabpodkaokjaaGreatDoor.Sx

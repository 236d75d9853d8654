import Derived.Test.YtbjabpodkaokjaaGreatDoorCC38
import Derived.Test.YtbjabpodkaokjaaGreatDoorCC37
import Derived.Test.YtbjabpodkaokjaaGreatDoorTie
import Derived.Test.YtbjabpodkaokjaaGreatDoorCards
import Derived.SevenTiedAt
set_option linter.all false
set_option maxHeartbeats 4000000
set_option maxRecDepth 100000
open List Nat Go.World Go.Proofs.Tryz
namespace Go.Proofs.YtbjabpodkaokjaaGreatDoor
open Go.ChangeShapes Go.WideShapes Go.ChangeAt Go.WideMaps Go.WideElems Go.RowKit
def Mv:ownKnob prog.godebug=none:=κ
def sP {W:World} (h:laidMetH prog Rows.compilesRow.laid W):Sx.iV W/\TabZ W:=by
 rw[MakeChecks.laidMetH_plain _ _ _ κ] at h;obtain⟨ps,⟨g1,t1,v,f1,p1,q1,i,n,b,l,⟨g3,t3,a,f3,p3,q3,e,r,j,f,⟨g4,t4,m,f4,p4,q4,d,o,c,t,⟨g5,t5,q,f5,p5,q5,u,g,p,s,_,_⟩,_⟩,_⟩,_⟩,_,_⟩:=h;obtain rfl:=Option.some.inj (gBits.symm.trans i);obtain rfl:=Option.some.inj (gSigns.symm.trans e);obtain rfl:=Option.some.inj (gBytes.symm.trans d);obtain rfl:=Option.some.inj (gSets.symm.trans u);obtain rfl:=Option.some.inj (LP.symm.trans n);obtain rfl:=Option.some.inj (KY.symm.trans r);obtain rfl:=Option.some.inj (LO.symm.trans o);obtain rfl:=Option.some.inj (LN.symm.trans g);have e1:=A_ l;have e3:a.toList=Sx.SG.toList:=Lib.cells_of_tab (k:=.u8) (zs:=[92,46,91,93,40,41,123,125,124,42,43,63,94,36]) underlying340 underlying5 c5 κ f;have e4:=A6 t;have e5:=A7 s;have a3:a=Sx.SG:=Array.toList_inj.1 e3;have a4:m=Sx.BE:=Array.toList_inj.1 e4;have a5:q=Sx.SE:=Array.toList_inj.1 e5;subst a3;subst a4;subst a5;exact⟨⟨iS gSigns j,iS gSets p,iS gBytes c⟩,tabz_of b e1⟩
def sQ (os:Os) (args:Array Value):laidMetH prog Rows.compilesRow.laid ((doorLaid prog 400 os).forCall (λ_ _=>0) ⟨#[],args,[]⟩).memory:=by
 rw[MakeChecks.laidMetH_plain _ _ _ κ];exact laidMet_of_run' 8 κ κ
def pr (os:Os) (started:os.Started) (H:Type) (enc:TypeId×Value->H) :
  ReturnsInHanded {} checked os 5 .any (λw args=>(Rows.compilesSpec.pre enc prog Tryz.f5 [] false w args/\laidMetH prog Rows.compilesRow.laid w)/\sizedMet enc prog Tryz.f5 (OpenSpec.ofChange Rows.compilesSpec) false w args)
   (Rows.compilesSpec.post enc prog Tryz.f5 false true false false):=by
 refine returnsInHanded_of_change_and (C:=checked) (X:=λw _=>laidMetH prog Rows.compilesRow.laid w) (λ_ _ _ hh h=>h.of_heap hh) Mv started κ func5
  (ChangeSpec.witness_shaped (enc:=enc) (C:=checked) (os:=os) (X:=λw _=>laidMetH prog Rows.compilesRow.laid w) false (doorLaid prog 400 os) #[.string ⟨#[]⟩,.int .i64 0] 8 rfl (shaped_of_RefB κ κ) κ κ κ (sQ os _)) ?_
 intro W base args ds gs d b hW _ _ hL _;have a:∀(j:Nat) t v,Tryz.f5.params[j]?=some t->args[j]?=some v->Value.okWide prog W .any base t v:=b;have f:=hW;obtain⟨p,q,c,hV,rfl,i,g⟩:=hW;have hA:DataW.TrodAll enc prog W 0 (λ_=>true) true Tryz.f5.params.toList args.toList ds p:=c;rw[params5] at hA a;obtain⟨v0,v1,d0,d1,p0,p1,rfl,rfl,rfl,h0,h1⟩:=trodAll_two hA;obtain⟨rfl,rfl⟩:=trodVars_none hV;obtain⟨s,rfl,rfl,rfl,hs⟩:=Go.ChangeMaps.open_string underlying9 (a 0 9 v0 rfl rfl) h0;obtain⟨l,rfl,rfl,rfl,hl⟩:=open_int underlying3 (a 1 3 v1 rfl rfl) h1;obtain⟨hT,hZ⟩:=sP hL;clear c b;refine(vZ W s l hT hZ hs).mono λe W' ⟨he,bel⟩=>?_
 subst he;exact⟨_,rfl,_,_,_,[],_,[],f,trodAll_mk1 (shut_bool underlying4 _),trodAll_mk2 (Go.ChangeMaps.shut_string underlying9 hs) (shut_int underlying3 hl),rfl,bel.frame _,λh=>by cases h⟩
def sS:Rows.CompilesSaid:=
 OpenClaim.holds_of_wide 5 Tryz.f5 rfl rfl rfl rfl rfl rfl rfl ⟨rfl,rfl,rfl,rfl,rfl⟩ rfl rfl rfl rfl rfl κ func5 κ
  (of_decide_eq_true κ) (by unfold Func.isWrapper;first|(rw[Zi (by decide +kernel)];kernel_rfl)|(rw[Zh (by decide +kernel)];exact⟨rfl,rfl⟩))
  (λos started H enc _=>pr os started H enc)
end Go.Proofs.YtbjabpodkaokjaaGreatDoor

import Derived.Test.YtbjabpodkaokjaaGreatDoorDSf01
import Derived.Test.YtbjabpodkaokjaaGreatDoorS09
set_option linter.unusedVariables false
set_option linter.unusedSimpArgs false
set_option maxHeartbeats 4000000
set_option maxRecDepth 100000
namespace Go.Proofs.YtbjabpodkaokjaaGreatDoor
open Go.ChangeShapes Go.WideShapes Go.ChangeAt Go.WideMaps Go.WideElems Go.RowKit
theorem spoilt_door (os:Os) (args:Array Value):laidMetH Tryz.prog Rows.spoiltRow.laid ((World.doorLaid Tryz.prog 400 os).forCall (fun _ _=>0) ⟨#[],args,[]⟩).memory:=by
 rw[MakeChecks.laidMetH_plain _ _ _ (by kernel_rfl)]
 exact laidMet_of_run' 8 (by kernel_rfl) (by kernel_rfl)
theorem spoilt_lifted (os:Os) (started:os.Started) (H:Type) (enc:TypeId×Value→H) :
  ReturnsInHanded {} Tryz.checked os 10 .any (fun w args=>(Rows.spoiltSpec.pre enc Tryz.prog Tryz.f10 [] false w args∧laidMetH Tryz.prog Rows.spoiltRow.laid w)∧sizedMet enc Tryz.prog Tryz.f10 (OpenSpec.ofChange Rows.spoiltSpec) false w args)
   (Rows.spoiltSpec.post enc Tryz.prog Tryz.f10 false true false false):=by
 refine returnsInHanded_of_change_and (C:=Tryz.checked) (X:=fun w _=>laidMetH Tryz.prog Rows.spoiltRow.laid w) (fun _ _ _ hh h=>h.of_heap hh) own5 started (by kernel_rfl) Tryz.func10
  (ChangeSpec.witness_shaped (enc:=enc) (C:=Tryz.checked) (os:=os) (X:=fun w _=>laidMetH Tryz.prog Rows.spoiltRow.laid w) false (World.doorLaid Tryz.prog 400 os) #[.slice none 0 0,.int .i64 0,.int .i64 0,.int .i64 0,mkV 0 0 0 0] 8 rfl (World.shaped_of_RefB (by kernel_rfl) (by kernel_rfl)) (by kernel_rfl) (by kernel_rfl) (by kernel_rfl) (spoilt_door os _)) ?_
 intro W base args ds gs before hval0 hW _ _ hL _
 have hval:∀(j:Nat) t v,Tryz.f10.params[j]?=some t→args[j]?=some v→Value.okWide Tryz.prog W .any base t v:=hval0
 have hW':=hW
 obtain⟨p,q,hA0,hV,rfl,hfz,hnd⟩:=hW
 have hA:DataW.TrodAll enc Tryz.prog W 0 (fun _=>true) true Tryz.f10.params.toList args.toList ds p:=hA0
 have hlt:=hA.lt
 rw[Tryz.params10] at hA hval
 obtain⟨v0,as1,d0,ds1,p0,q0,ha0,rfl,rfl,h0,hA1⟩:=trodAll_cons hA
 obtain⟨v1,as2,d1,ds2,p1,q1,rfl,rfl,rfl,h1,hA2⟩:=trodAll_cons hA1
 obtain⟨v2,as3,d2,ds3,p2,q2,rfl,rfl,rfl,h2,hA3⟩:=trodAll_cons hA2
 obtain⟨v3,as4,d3,ds4,p3,q3,rfl,rfl,rfl,h3,hA4⟩:=trodAll_cons hA3
 obtain⟨v4,as5,d4,ds5,p4,q4,rfl,rfl,rfl,h4,hA5⟩:=trodAll_cons hA4
 obtain⟨rfl,rfl,rfl⟩:=trodAll_nil hA5
 obtain rfl:args=#[v0,v1,v2,v3,v4]:=by cases args;simp_all
 obtain⟨rfl,rfl⟩:=trodVars_none hV
 obtain⟨n1,rfl,rfl,rfl,w1⟩:=open_int Tryz.underlying3 (hval 1 3 v1 rfl rfl) h1
 obtain⟨n2,rfl,rfl,rfl,w2⟩:=open_int Tryz.underlying3 (hval 2 3 v2 rfl rfl) h2
 obtain⟨n3,rfl,rfl,rfl,w3⟩:=open_int Tryz.underlying3 (hval 3 3 v3 rfl rfl) h3
 obtain⟨cs4,rfl,-,-⟩:∃ cs,v4=.agg cs∧_∧_:=by
  have:=hval 4 72 v4 rfl rfl
  unfold Value.okWide at this
  rw[Tryz.underlying72] at this
  exact this
 obtain⟨a0,l0,c0,rfl⟩:=Go.WideShapes.okWide_slice Tryz.underlying40 (hval 0 40 v0 rfl rfl)
 have h0':=h0
 have h4':=h4
 obtain⟨f0,k0⟩:=h0
 obtain⟨f4,k4⟩:=h4
 obtain⟨v,l,e0,hraw⟩:=open_raw k0
 obtain⟨a,b,c,d,e4,hm⟩:=open_four k4
 obtain rfl:v=.slice a0 l0 c0:=by simpa [Value.cells] using e0.symm
 obtain rfl:cs4=#[.int .i64 a,.int .i64 b,.int .i64 c,.int .i64 d]:=Array.toList_inj.1 (by simpa [Value.cells] using e4)
 obtain⟨hT,hZ⟩:=spoilt_laid hL
 clear hA0 hval0
 refine(spoilt_any W _ l n1 n2 n3 a b c d hT hZ hraw (wf_rg w1) (wf_rg w2) (wf_rg w3) hm).mono fun e W' ⟨he,bel⟩=>?_
 subst he
 exact⟨_,rfl,_,_,_,[],_,[],hW',trodAll_mk1 (shut_bool Tryz.underlying4 _),trodAll_cons_mk (Trod_stays (by kernel_rfl) (by kernel_rfl) (of_decide_eq_true (by kernel_rfl)) h0' (fun x hx=>same_at bel (hlt x (by simp[hx]))) (fun x hx=>by simpa using hlt x (by simp[hx]))) (trodAll_cons_mk (shut_int Tryz.underlying3 w1) (trodAll_cons_mk (shut_int Tryz.underlying3 w2) (trodAll_cons_mk (shut_int Tryz.underlying3 w3) (trodAll_mk1 (Trod_stays (by kernel_rfl) (by kernel_rfl) (of_decide_eq_true (by kernel_rfl)) h4' (fun x hx=>same_at bel (hlt x (by simp[hx]))) (fun x hx=>by simpa using hlt x (by simp[hx]))))))),rfl,bel.frame _,fun h=>by cases h⟩
theorem spoilt_said:Rows.SpoiltSaid:=
 OpenClaim.holds_of_wide 10 Tryz.f10 rfl rfl rfl rfl rfl rfl rfl ⟨rfl,rfl,rfl,rfl,rfl⟩ rfl rfl rfl rfl rfl (by kernel_rfl) Tryz.func10 (by kernel_rfl)
  (of_decide_eq_true (by kernel_rfl)) (by unfold Func.isWrapper;first|(rw[if_pos (by decide +kernel)];kernel_rfl)|(rw[if_neg (by decide +kernel)];exact⟨rfl,rfl⟩))
  (fun os started H enc _=>spoilt_lifted os started H enc)
end Go.Proofs.YtbjabpodkaokjaaGreatDoor

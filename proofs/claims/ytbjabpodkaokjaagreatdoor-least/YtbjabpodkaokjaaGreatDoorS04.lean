import Derived.Test.YtbjabpodkaokjaaGreatDoorS02
set_option linter.unusedVariables false
set_option linter.unusedSimpArgs false
set_option maxHeartbeats 4000000
set_option maxRecDepth 100000
namespace Go.Proofs.YtbjabpodkaokjaaGreatDoor
open Go.RowKit
theorem text_rep (w:World) (p l m px:Nat) (hl:l≤2) (hm:m≤2) (X:ByteArray) (h:w.heap[p]?=some (trB 7 l m (some ⟨px,0,none⟩) none)) (hx:TxC w px X) (sX:X.size≤200) :
  Calls Tryz.prog 28 #[.pointer (some ⟨p,0,none⟩)] w fun e w'=>e=.returned (.string (ba [40]++X++ba [41,123]++ba [dg l]++ba [44]++ba [dg (l+m)]++ba [125]))∧Below w.heap.size w w':=by
 have HP:Hid (∀ w',Below w.heap.size w w'→w'.heap[p]?=some (trB 7 l m (some ⟨px,0,none⟩) none)):=fun w' hb=>by rw[hb.block p (some_lt h)];exact h
 obtain⟨p0,p1,p2,p3,p4⟩:=box5 h
 obtain⟨d,hD⟩:∃ d,d=ba [dg l]:=⟨_,rfl⟩
 obtain⟨f,hF⟩:∃ f,f=ba [dg (l+m)]:=⟨_,rfl⟩
 have hds:d.size=1:=by rw[hD];rfl
 have hfs:f.size=1:=by rw[hF];rfl
 have hdc:=fun w=>kdec_any w l (by omega)
 have hfc:=fun w=>kdec_any w (l+m) (by omega)
 rw[←hD] at hdc ⊢
 rw[←hF] at hfc ⊢
 have a1:¬ 9223372036854775807<1+X.size:=by omega
 have a2:¬ 9223372036854775807<1+X.size+2:=by omega
 have a3:¬ 9223372036854775807<1+X.size+2+d.size:=by omega
 have a4:¬ 9223372036854775807<1+X.size+2+d.size+1:=by omega
 have a5:¬ 9223372036854775807<1+X.size+2+d.size+1+f.size:=by omega
 have a6:¬ 9223372036854775807<1+X.size+2+d.size+1+f.size+1:=by omega
 have hsum:((l+m:Nat):Int)=(l:Int)+m:=by omega
 rw[hsum] at hfc
 have HWR:Hid (IntKind.i64.wrap ((l:Int)+m)=(l:Int)+m):=by show _=_;rw[IntKind.wrap_i64];omega
 have HFC:Hid _:=hfc
 clear hfc
 clear h p4 hD hF hds hfs hsum
 go_enter Tryz.func28,Tryz.ntmps28
 go_wp2
 go_region_held3 (fun w'=>w'.cell? ⟨p,1,none⟩=some (.int .i64 l)∧w'.cell? ⟨p,2,none⟩=some (.int .i64 m)∧w'.cell? ⟨p,3,none⟩=some (.pointer (some ⟨px,0,none⟩))) (go_keep)
  (first|(have:=hmark2;go_at_call 58;rw[HWR.out];refine(HFC.out _).mono ?_;rintro e w5 ⟨rfl,l5⟩;have HB5:Hid (Below w.heap.size w w5):=HB4.out.trans (l5.mono HB4.out.size);obtain⟨-,v1,v2,v3,-⟩:=box5 (HP.out w5 HB5.out))|(have:=hmark;go_at_call 58;refine(hdc _).mono ?_;rintro e w4 ⟨rfl,l4⟩;have hmark2:True:=trivial;have HB4:Hid (Below w.heap.size w w4):=HB3.out.trans (l4.mono HB3.out.size);obtain⟨-,z1,z2,z3,-⟩:=box5 (HP.out w4 HB4.out);clear l4)|(go_at_call 28;refine(hx _ (Below.refl _ _).drew).mono ?_;rintro e w3 ⟨rfl,l3⟩;have hmark:True:=trivial;have HB3:Hid (Below w.heap.size w w3):=(Below.refl _ _).drew.trans (l3.mono (Nat.le_refl _));obtain⟨-,y1,y2,y3,-⟩:=box5 (HP.out w3 HB3.out);clear l3))
 go_wp2
 go_ret
 exact⟨rfl,HB5.out⟩
theorem text_any:∀ {d:Nat}{t:HT},HTOk d t→(tx (kt t)).length≤190→∀ {lo p:Nat}{w:World},HTAt lo w p t→Calls Tryz.prog 28 #[.pointer (some ⟨p,0,none⟩)] w fun e w'=>e=.returned (.string (ba (tx (kt t))))∧Below w.heap.size w w'
 |d,.lf k l m,hok,_,lo,p,w,h=>by
  simp only[HTOk] at hok
  simp only[HTAt] at h
  by_cases hk:k≤1
  ·have:=text_chr w p k l m (by omega) hok.2.1 h.2
   simpa only [kt,hk,if_true,tx] using this
  ·have hk2:k=2:=by omega
   subst hk2
   have:=text_nota w p l m h.2
   simpa only [kt,hk,if_false,tx] using this
 |d+1,.bi k l m x y,hok,hlen,lo,p,w,h=>by
  simp only[HTOk] at hok
  simp only[HTAt] at h
  obtain⟨-,px,py,hb,hx,hy⟩:=h
  rcases hok.1 with rfl|rfl
  ·simp only[kt,if_true,tx,List.length_append] at hlen ⊢
   have:=text_cat w p l m px py _ _ hb (fun w' hw'=>text_any hok.2.2.2.1 (by omega) (hx.below hw')) (fun w' hw'=>text_any hok.2.2.2.2 (by omega) (hy.below hw')) (by rw[ba_size];omega) (by rw[ba_size];omega)
   rw[ba_cat] at this
   exact this
  ·simp only[kt,show ¬(4=3) by omega,if_false,tx,List.flatMap_nil,List.length_append,List.length_cons,List.length_nil] at hlen ⊢
   have:=text_alt w p l m px py _ _ hb (fun w' hw'=>text_any hok.2.2.2.1 (by omega) (hx.below hw')) (fun w' hw'=>text_any hok.2.2.2.2 (by omega) (hy.below hw')) (by rw[ba_size];omega) (by rw[ba_size];omega)
   simp only[ba_cat,List.append_assoc,List.cons_append,List.nil_append] at this
   exact this
 |d+1,.un k l m x,hok,hlen,lo,p,w,h=>by
  simp only[HTOk] at hok
  simp only[HTAt] at h
  obtain⟨-,px,hb,hx⟩:=h
  rcases hok.1 with rfl|rfl|rfl
  ·simp only[kt,if_true,tx,txc,List.flatMap_cons,List.flatMap_nil,List.length_append,List.length_cons,List.length_nil] at hlen ⊢
   have:=text_one w p 5 l m px (.inl rfl) _ hb (fun w' hw'=>text_any hok.2.2.2 (by omega) (hx.below hw')) (by rw[ba_size];omega)
   simp only[ba_cat,List.append_assoc,List.cons_append,List.nil_append,if_true] at this
   exact this
  ·simp only[kt,show ¬(6=5) by omega,if_true,if_false,tx,txc,List.flatMap_cons,List.flatMap_nil,List.length_append,List.length_cons,List.length_nil] at hlen ⊢
   have:=text_one w p 6 l m px (.inr rfl) _ hb (fun w' hw'=>text_any hok.2.2.2 (by omega) (hx.below hw')) (by rw[ba_size];omega)
   simp only[ba_cat,List.append_assoc,List.cons_append,List.nil_append,show ¬(6=5) by omega,if_false] at this
   exact this
  ·simp only[kt,show ¬(7=5) by omega,show ¬(7=6) by omega,if_false,tx,txc,List.flatMap_cons,List.flatMap_nil,List.length_append,List.length_cons,List.length_nil] at hlen ⊢
   have:=text_rep w p l m px hok.2.1 hok.2.2.1 _ hb (fun w' hw'=>text_any hok.2.2.2 (by omega) (hx.below hw')) (by rw[ba_size];omega)
   simp only[ba_cat,List.append_assoc,List.cons_append,List.nil_append] at this
   exact this
 |0,.bi k l m x y,hok,_,_,_,_,_=>by simp[HTOk] at hok
 |0,.un k l m x,hok,_,_,_,_,_=>by simp[HTOk] at hok
end Go.Proofs.YtbjabpodkaokjaaGreatDoor

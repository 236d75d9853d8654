import Derived.Test.YtbjabpodkaokjaaGreatDoorKSf04
import Derived.Test.YtbjabpodkaokjaaGreatDoorKSf02
import Derived.Test.YtbjabpodkaokjaaGreatDoorJ34
import Derived.Test.YtbjabpodkaokjaaGreatDoorKSf03
import Derived.Lib.ConvBytes
set_option linter.unusedVariables false
set_option linter.unusedSimpArgs false
namespace Go.Proofs.YtbjabpodkaokjaaGreatDoor
open Go.RowKit

abbrev svV (p:Nat) (f b:Bool):Value:=.agg #[.pointer (some ⟨p,0,none⟩),.bool f,.bool b]
theorem pk4 {c:Int} (h1:-9223372036854775808 ≤ c) (h2:c ≤ 9223372036854775807):∃ k,(k = 0 ∨ k = 1 ∨ k = 2 ∨ k = 3) ∧ ∀ w,Calls Tryz.prog 21 #[.int .i64 c,.int .i64 4] w fun e w' => e = .returned (.int .i64 (k:Nat)) ∧ w' = w:=by
 obtain ⟨k,hk,hc⟩:=pk_at h1 h2 (n:=4) (by omega) (by omega) (z:=4) (by omega)
 exact ⟨k,by omega,hc⟩
theorem set3_blk (w:World) (q:Nat) (a0 a1 a2:Value) {k:Nat} (h:k ≠ q):(((w.setCell ⟨q,0,none⟩ a0).setCell ⟨q,1,none⟩ a1).setCell ⟨q,2,none⟩ a2).heap[k]? = w.heap[k]?:=by
 rw [set_blk _ _ _ _ h,set_blk _ _ _ _ h,set_blk _ _ _ _ h]
set_option maxRecDepth 20000 in
set_option maxHeartbeats 4000000 in
theorem sought_any (w:World) (v:Value) (l:List Int) (ends:Int) (h:Raw w.heap.size w v l) (h1:-9223372036854775808 ≤ ends) (h2:ends ≤ 9223372036854775807) :
  Calls Tryz.prog 30 #[v,.int .i64 ends] w fun e w' => ∃ p f b t,e = .returned (svV p f b) ∧ HTAt w.heap.size w' p t ∧ HTOk 4 t ∧ Below w.heap.size w w':=by
 obtain ⟨k,hk,hp⟩:=pk4 h1 h2
 have HP:Hid _:=hp
 have HG:Hid (∀ x,Calls Tryz.prog 27 #[v,.int .i64 4] (w.alloc x) fun e w' => GrRes w.heap.size (w.alloc x) w' 4 e):=fun x => grown_any 4 (by omega) _ _ _ _ (by simp) (h.below ((Below.refl _ _).alloc (Nat.le_refl _) _))
 clear hp h
 go_enter Tryz.func30,Tryz.ntmps30
 go_upto_region 2 with (go_at_call 27; refine (HG.out _).mono ?_; rintro e w3 ⟨p,v3,t,l3,rfl,ht,ho,hr,hb⟩; have HT:Hid _:=ht; have HO:Hid _:=ho; have HB:Hid _:=hb; clear ht ho hr hb)
 have hq:w3.heap[w.heap.size]? = some (.cells #[.pointer none,.bool false,.bool false] 62):=(HB.out.block _ (by simp)).trans (heap_alloc_new w _)
 obtain ⟨q0,q1,q2⟩:=box3 hq
 have f0:∀ o,w3.frozen? ⟨w.heap.size,o,none⟩ = false:=fun o => by simp [World.frozen?,hq]
 have fa:=f0 0
 have fb:=f0 1
 have fc:=f0 2
 have HQ:Hid _:=hq
 clear hq f0
 rcases hk with rfl | rfl | rfl | rfl
 ·go_wp2_with (go_at_call 21; refine (HP.out _).mono ?_; rintro e w5 ⟨rfl,hw5⟩; obtain rfl:=hw5.symm)
  exact bodyPost_ret (v:=svV p false false) (by simp [results,Tryz.results30,go_sem,q0,q1,q2,fa,fb,fc]) rfl ⟨p,false,false,t,rfl,(HT.out.keep (fun c h1 h2 => set3_blk _ _ _ _ _ (by simp at h1; omega))).mono (by simp),HO.out,(((((Below.refl _ _).alloc (Nat.le_refl _) _).trans (HB.out.mono (by simp))).setCell (Nat.le_refl _) _).setCell (Nat.le_refl _) _).setCell (Nat.le_refl _) _⟩
 ·go_wp2_with (go_at_call 21; refine (HP.out _).mono ?_; rintro e w5 ⟨rfl,hw5⟩; obtain rfl:=hw5.symm)
  exact bodyPost_ret (v:=svV p true false) (by simp [results,Tryz.results30,go_sem,q0,q1,q2,fa,fb,fc]) rfl ⟨p,true,false,t,rfl,(HT.out.keep (fun c h1 h2 => set3_blk _ _ _ _ _ (by simp at h1; omega))).mono (by simp),HO.out,(((((Below.refl _ _).alloc (Nat.le_refl _) _).trans (HB.out.mono (by simp))).setCell (Nat.le_refl _) _).setCell (Nat.le_refl _) _).setCell (Nat.le_refl _) _⟩
 ·go_wp2_with (go_at_call 21; refine (HP.out _).mono ?_; rintro e w5 ⟨rfl,hw5⟩; obtain rfl:=hw5.symm)
  exact bodyPost_ret (v:=svV p false true) (by simp [results,Tryz.results30,go_sem,q0,q1,q2,fa,fb,fc]) rfl ⟨p,false,true,t,rfl,(HT.out.keep (fun c h1 h2 => set3_blk _ _ _ _ _ (by simp at h1; omega))).mono (by simp),HO.out,(((((Below.refl _ _).alloc (Nat.le_refl _) _).trans (HB.out.mono (by simp))).setCell (Nat.le_refl _) _).setCell (Nat.le_refl _) _).setCell (Nat.le_refl _) _⟩
 ·go_wp2_with (go_at_call 21; refine (HP.out _).mono ?_; rintro e w5 ⟨rfl,hw5⟩; obtain rfl:=hw5.symm)
  exact bodyPost_ret (v:=svV p true true) (by simp [results,Tryz.results30,go_sem,q0,q1,q2,fa,fb,fc]) rfl ⟨p,true,true,t,rfl,(HT.out.keep (fun c h1 h2 => set3_blk _ _ _ _ _ (by simp at h1; omega))).mono (by simp),HO.out,(((((Below.refl _ _).alloc (Nat.le_refl _) _).trans (HB.out.mono (by simp))).setCell (Nat.le_refl _) _).setCell (Nat.le_refl _) _).setCell (Nat.le_refl _) _⟩
set_option maxRecDepth 20000 in
set_option maxHeartbeats 4000000 in
theorem stext_one (w:World) (p k l m:Nat) (px py:Option Addr) (f b:Bool) (X:ByteArray) (h:w.heap[p]? = some (trB k l m px py)) (hk:k ≠ 3) (hx:TxC w p X) (sX:X.size ≤ 200) :
  Calls Tryz.prog 31 #[svV p f b] w fun e w' => e = .returned (.string (ba (begP f) ++ X ++ ba (endP b))) ∧ Below w.heap.size w w':=by
 have HP:Hid (∀ w',Below w.heap.size w w' → w'.heap[p]? = some (trB k l m px py)):=fun w' hb => by rw [hb.block p (some_lt h)]; exact h
 have hk3:((k:Int) == 3) = false:=by simp; omega
 have a1:¬ 9223372036854775807 < 1 + X.size:=by omega
 have a2:¬ 9223372036854775807 < 1 + X.size + 1:=by omega
 have a3:¬ 9223372036854775807 < X.size + 1:=by omega
 obtain ⟨w1,hw1⟩:∃ w1,w1 = w.alloc (.cells #[.pointer (some ⟨p,0,none⟩),.bool f,.bool b] 62):=⟨_,rfl⟩
 have HW1:Hid _:=hw1
 have HB1:Hid (Below w.heap.size w w1):=by rw [hw1]; exact (Below.refl _ _).alloc (Nat.le_refl _) _
 have HX1:Hid (∀ w',Below w1.heap.size w1 w' → w'.heap[w.heap.size]? = some (.cells #[.pointer (some ⟨p,0,none⟩),.bool f,.bool b] 62)):=fun w' hb => by rw [hb.block _ (by rw [hw1]; simp),hw1]; exact heap_alloc_new w _
 have hs1:=HX1.out w1 (Below.refl _ _)
 obtain ⟨s0,s1,s2⟩:=box3 hs1
 clear hw1 hs1 h
 go_enter Tryz.func31,Tryz.ntmps31
 go_upto_region 1 with (fail)
 rw [← HW1.out]
 cases f <;> cases b
 all_goals
  go_wp2_with (go_at_call 28; refine (hx _ HB1.out).mono ?_; rintro e w3 ⟨rfl,l3⟩; have HB3:Hid (Below w.heap.size w w3):=HB1.out.trans (l3.mono HB1.out.size); obtain ⟨y0,y1,y2,y3,y4⟩:=box5 (HP.out w3 HB3.out); obtain ⟨z0,z1,z2⟩:=box3 (HX1.out w3 l3); clear l3)
  go_ret
  refine ⟨?_,HB3.out⟩
  simp [begP,endP]
  try (apply ByteArray.ext; simp [ByteArray.data_append])
end Go.Proofs.YtbjabpodkaokjaaGreatDoor

namespace Go.Proofs.YtbjabpodkaokjaaGreatDoor
open Go.RowKit

set_option maxRecDepth 20000 in
set_option maxHeartbeats 4000000 in
theorem stext_cat (w:World) (p l m px py:Nat) (f b:Bool) (X Y:ByteArray) (h:w.heap[p]? = some (trB 3 l m (some ⟨px,0,none⟩) (some ⟨py,0,none⟩))) (ht:TxC w p (X ++ Y)) (hx:TxC w px X) (hy:TxC w py Y) (sX:X.size ≤ 200) (sY:Y.size ≤ 200) :
  Calls Tryz.prog 31 #[svV p f b] w fun e w' => e = .returned (.string (ba (begP f) ++ (X ++ Y) ++ ba (endP b))) ∧ Below w.heap.size w w':=by
 have HP:Hid (∀ w',Below w.heap.size w w' → w'.heap[p]? = some (trB 3 l m (some ⟨px,0,none⟩) (some ⟨py,0,none⟩))):=fun w' hb => by rw [hb.block p (some_lt h)]; exact h
 have a0:¬ 9223372036854775807 < X.size + Y.size:=by omega
 have hsz:(X ++ Y).size = X.size + Y.size:=ByteArray.size_append
 obtain ⟨Z,hZ⟩:∃ Z,Z = X ++ Y:=⟨_,rfl⟩
 have HZ:Hid (X ++ Y = Z):=hZ.symm
 rw [← hZ] at hsz ht ⊢
 have a1:¬ 9223372036854775807 < 1 + Z.size:=by omega
 have a2:¬ 9223372036854775807 < 1 + Z.size + 1:=by omega
 have a3:¬ 9223372036854775807 < Z.size + 1:=by omega
 clear hZ hsz
 obtain ⟨w1,hw1⟩:∃ w1,w1 = w.alloc (.cells #[.pointer (some ⟨p,0,none⟩),.bool f,.bool b] 62):=⟨_,rfl⟩
 have HW1:Hid _:=hw1
 have HB1:Hid (Below w.heap.size w w1):=by rw [hw1]; exact (Below.refl _ _).alloc (Nat.le_refl _) _
 have HX1:Hid (∀ w',Below w1.heap.size w1 w' → w'.heap[w.heap.size]? = some (.cells #[.pointer (some ⟨p,0,none⟩),.bool f,.bool b] 62)):=fun w' hb => by rw [hb.block _ (by rw [hw1]; simp),hw1]; exact heap_alloc_new w _
 have hs1:=HX1.out w1 (Below.refl _ _)
 obtain ⟨s0,s1,s2⟩:=box3 hs1
 clear hw1 hs1 h
 go_enter Tryz.func31,Tryz.ntmps31
 go_upto_region 1 with (fail)
 rw [← HW1.out]
 go_upto_region 3 with (go_at_call 28; refine (ht _ HB1.out).mono ?_; rintro e w3 ⟨rfl,l3⟩; have HB3:Hid (Below w.heap.size w w3):=HB1.out.trans (l3.mono HB1.out.size); have HL3:Hid (Below w1.heap.size w1 w3):=l3; obtain ⟨y0,y1,y2,y3,y4⟩:=box5 (HP.out w3 HB3.out); obtain ⟨z0,z1,z2⟩:=box3 (HX1.out w3 l3); clear l3)
 go_cut [3] from 13 to 25 (fun u3 wc => u3 = .string Z ∧ Below w1.heap.size w1 wc)
 case first =>
  go_region_held3 (fun w' => w'.cell? ⟨p,3,none⟩ = some (.pointer (some ⟨px,0,none⟩)) ∧ w'.cell? ⟨p,4,none⟩ = some (.pointer (some ⟨py,0,none⟩)) ∧ w'.cell? ⟨w.heap.size,0,none⟩ = some (.pointer (some ⟨p,0,none⟩))) (go_keep)
   (first | (have:=hmark; go_at_call 28; refine (hy _ HB4.out).mono ?_; rintro e w5 ⟨rfl,l5⟩; have HL5:Hid (Below w1.heap.size w1 w5):=HL4.out.trans (l5.mono HL4.out.size); have HB5:Hid (Below w.heap.size w w5):=HB1.out.trans (HL5.out.mono HB1.out.size); obtain ⟨-,-,-,v3,v4⟩:=box5 (HP.out w5 HB5.out); obtain ⟨v0,-,-⟩:=box3 (HX1.out w5 HL5.out)) | (go_at_call 28; refine (hx _ HB3.out.drew).mono ?_; rintro e w4 ⟨rfl,l4⟩; have hmark:True:=trivial; have HL4:Hid (Below w1.heap.size w1 w4):=HL3.out.drew.trans (l4.mono HL3.out.size); have HB4:Hid (Below w.heap.size w w4):=HB1.out.trans (HL4.out.mono HB1.out.size); obtain ⟨-,-,-,x3,x4⟩:=box5 (HP.out w4 HB4.out); obtain ⟨x0,-,-⟩:=box3 (HX1.out w4 HL4.out); clear l4))
  all_goals
   go_wp2
   go_meet
   exact ⟨by rw [HZ.out],HL5.out⟩
 case rest =>
 obtain ⟨rfl,hlc⟩:=hcut
 obtain ⟨r0,r1,r2⟩:=box3 (HX1.out wc hlc)
 have HBC:Hid (Below w.heap.size w wc):=HB1.out.trans (hlc.mono HB1.out.size)
 clear hlc
 cases f <;> cases b
 all_goals
  go_wp2
  go_ret
  refine ⟨?_,HBC.out⟩
  simp [begP,endP]
  try (apply ByteArray.ext; simp [ByteArray.data_append])
theorem stext_any {t:HT} (hok:HTOk 4 t) {lo p:Nat} {w:World} (h:HTAt lo w p t) (f b:Bool) :
  Calls Tryz.prog 31 #[svV p f b] w fun e w' => e = .returned (.string (ba (begP f ++ (tx (kt t) ++ endP b)))) ∧ Below w.heap.size w w':=by
 have hlen:(tx (kt t)).length ≤ 109:=(tx_len hok).1
 have hT:TxC w p (ba (tx (kt t))):=fun w' hw' => text_any hok (by omega) (h.below hw')
 have hsz:(ba (tx (kt t))).size ≤ 200:=by rw [ba_size]; omega
 rw [show begP f ++ (tx (kt t) ++ endP b) = begP f ++ tx (kt t) ++ endP b by simp,← ba_cat,← ba_cat]
 match t,hok,h,hT,hsz,hlen with
 | .lf k l m,hok,h,hT,hsz,_ =>
  simp only [HTAt] at h
  simp only [HTOk] at hok
  exact stext_one w p k l m none none f b _ h.2 (by omega) hT hsz
 | .un k l m x,hok,h,hT,hsz,_ =>
  simp only [HTAt] at h
  simp only [HTOk] at hok
  obtain ⟨-,px,hb,hx⟩:=h
  exact stext_one w p k l m _ none f b _ hb (by omega) hT hsz
 | .bi k l m x y,hok,h,hT,hsz,hlen =>
  simp only [HTAt] at h
  simp only [HTOk] at hok
  obtain ⟨-,px,py,hb,hx,hy⟩:=h
  rcases hok.1 with rfl | rfl
  ·simp only [kt,if_true,tx,List.length_append] at hlen hT ⊢
   rw [← ba_cat] at hT ⊢
   exact stext_cat w p l m px py f b _ _ hb hT (fun w' hw' => text_any hok.2.2.2.1 (by omega) (hx.below hw')) (fun w' hw' => text_any hok.2.2.2.2 (by omega) (hy.below hw')) (by rw [ba_size]; omega) (by rw [ba_size]; omega)
  ·exact stext_one w p 4 l m _ _ f b _ hb (by omega) hT hsz
end Go.Proofs.YtbjabpodkaokjaaGreatDoor

namespace Go.Proofs.YtbjabpodkaokjaaGreatDoor
open Go.RowKit

theorem tabular_is:Tabular isTb (fun l => cntR (ba l)):=⟨fun t ht => by
 obtain ⟨c,h⟩:=tbOk_of ht
 refine ⟨c,h.fits,?_,h.cc⟩
 have hc:=h.c256
 have:=h.cls 0
 omega⟩
theorem Raw.grow {B B':Nat} {w:World} {v:Value} {l:List Int} (h:Raw B w v l) (hB:B ≤ B'):Raw B' w v l:=⟨h.r,h.c,h.b,h.n,fun b o n c e => (h.o b o n c e).imp id (fun q => Nat.lt_of_lt_of_le q hB)⟩
abbrev ptx (t:HT) (f b:Bool):List UInt8:=begP f ++ (tx (kt t) ++ endP b)
theorem ptx_len {t:HT} (h:HTOk 4 t) (f b:Bool):(ptx t f b).length ≤ 111:=by
 have:=(tx_len h).1
 have h1:(begP f).length ≤ 1:=by cases f <;> simp [begP]
 have h2:(endP b).length ≤ 1:=by cases b <;> simp [endP]
 simp [szK] at this
 simp; omega
theorem ptx_comp {t:HT} (h:HTOk 4 t) (f b:Bool):(compM (ptx t f b) 200 = .inl (4,0) ∧ searchM ⟨f,b,[toC (kt t)]⟩ 200 = none) ∨ ∃ T n k,compM (ptx t f b) 200 = .inr (tbOf (leastM T)) ∧ TnFull n k T ∧ n ≤ 200 ∧ k ≤ 256 ∧ T.front = f ∧ T.back = b ∧ ∀ u,ac T (rnT T 0 u) = true ↔ endsAt f (LCs [toC (kt t)]) u:=by
 refine compM_ptn (readP_one (kt_ok h) f b) ?_ ?_
 ·have:=ptx_len h f b; omega
 ·have:=(tx_len h).2
  simp only [Sx.nestCs,nestC_toC]
  omega
theorem cpd_no {w W:World} (hS:Sx.Tabs w) (hT:TabZ w) (hW:Below w.heap.size w W) {s:List UInt8} (hs:s.length ≤ 300) (h:compM s 200 = .inl (4,0)):Calls Tryz.prog 29 #[.string (ba s)] W fun e w' => e = .returned (.tuple #[.pointer none,.bool true]) ∧ Below W.heap.size W w':=by
 refine (cpd_any W (ba s) (tabs_at hS hW) (tabz_at hT hW) (by rw [ba_size]; unfold maxLen; omega)).mono ?_
 rintro e w' ⟨h1,h2⟩
 rw [show (ba s).data.toList = s from rfl,h] at h1
 exact ⟨h1,h2⟩
theorem cpd_yes {w W:World} (hS:Sx.Tabs w) (hT:TabZ w) (hW:Below w.heap.size w W) {s:List UInt8} (hs:s.length ≤ 300) {T:Tb} (h:compM s 200 = .inr T):Calls Tryz.prog 29 #[.string (ba s)] W fun e w' => ∃ m c,e = .returned (.tuple #[.pointer (some ⟨m,0,none⟩),.bool true]) ∧ Mch w' m T c ∧ Below W.heap.size W w':=by
 refine (cpd_any W (ba s) (tabs_at hS hW) (tabz_at hT hW) (by rw [ba_size]; unfold maxLen; omega)).mono ?_
 rintro e w' ⟨h1,h2⟩
 rw [show (ba s).data.toList = s from rfl,h] at h1
 obtain ⟨m,c,h3,h4,h5⟩:=h1
 exact ⟨m,c,h3,h4 w' (Hi.refl _ _),h2⟩
theorem sought_at {w W:World} {v:Value} {l:List Int} {ends:Int} (h:Raw w.heap.size w v l) (hW:Below w.heap.size w W) (h1:-9223372036854775808 ≤ ends) (h2:ends ≤ 9223372036854775807):Calls Tryz.prog 30 #[v,.int .i64 ends] W fun e w' => ∃ p f b t,e = .returned (svV p f b) ∧ HTAt W.heap.size w' p t ∧ HTOk 4 t ∧ Below W.heap.size W w':=sought_any W v l ends ((h.below hW).grow hW.size) h1 h2
abbrev mkV (a b c d:Int):Value:=.agg #[.int .i64 a,.int .i64 b,.int .i64 c,.int .i64 d]
end Go.Proofs.YtbjabpodkaokjaaGreatDoor

namespace Go.Proofs.YtbjabpodkaokjaaGreatDoor
open Go.RowKit

structure BW (W:World) (g N:Nat) (B:Nat → UInt8):Prop where
 c:∀ j,j < N → W.cell? ⟨g,j,none⟩ = some (.int .u8 (B j).toNat)
 f:∀ j,j < N → W.frozen? ⟨g,j,none⟩ = false
theorem BW.set {W:World} {g N:Nat} {B B':Nat → UInt8} (h:BW W g N B) {k:Nat} (hk:k < N) {x:UInt8} (e:∀ j,j < N → B' j = if j = k then x else B j):BW (W.setCell ⟨g,k,none⟩ (.int .u8 x.toNat)) g N B':=by
 refine ⟨fun j hj => ?_,fun o ho => by simpa using h.f o ho⟩
 rw [e j hj]
 by_cases q:j = k
 ·subst q; rw [World.cell?_setCell_same _ _ _ (h.c j hj)]; simp
 ·rw [World.cell?_setCell_other _ _ _ _ (by first | (simp; done) | (simp; omega)),h.c j hj]; simp [q]
theorem bw_new (w:World) (s:ByteArray) {E:List UInt8} (hE:s = ba E):BW (Lib.bytesWorld w 5 s) w.heap.size s.size (fun j => E.getD j 0) ∧ Below w.heap.size w (Lib.bytesWorld w 5 s):=by
 refine ⟨⟨fun j hj => ?_,fun j hj => ?_⟩,⟨rfl,rfl,rfl,by rw [Lib.bytesWorld_size]; omega,fun k hk => Lib.bytesWorld_at_old _ _ _ _ hk⟩⟩
 ·rw [Lib.bytesWorld_cell _ _ _ _ hj,hE]
 ·simp only [World.frozen?,Lib.bytesWorld_at_new]
  have:(Lib.bytesCells w 5 s).size = s.size + (grownCap w s.size 0 5 - s.size):=by simp [Lib.bytesCells]
  simp
  omega
theorem bits_xor_u8 (a b:UInt8):bits .xor .u8 (a.toNat:Int) (b.toNat:Int) = (((a ^^^ b).toNat:Nat):Int):=by
 have ha:=a.toNat_lt
 have hb:=b.toNat_lt
 have h1:(BitVec.ofInt 8 (a.toNat:Int)).toNat = a.toNat:=by
  rw [BitVec.ofInt_natCast,BitVec.toNat_ofNat]; exact Nat.mod_eq_of_lt (by omega)
 have h2:(BitVec.ofInt 8 (b.toNat:Int)).toNat = b.toNat:=by
  rw [BitVec.ofInt_natCast,BitVec.toNat_ofNat]; exact Nat.mod_eq_of_lt (by omega)
 have hx:a.toNat ^^^ b.toNat < 256:=Nat.xor_lt_two_pow (n:=8) ha hb
 show IntKind.u8.wrap ((BitVec.ofInt 8 (a.toNat:Int) ^^^ BitVec.ofInt 8 (b.toNat:Int)).toNat:Int) = _
 rw [BitVec.toNat_xor,h1,h2,IntKind.wrap_u8,UInt8.toNat_xor]
 omega
def chg (V:Nat → UInt8):Nat → Bool
 | 0 => false
 | i + 1 => chg V i || V i != 0
theorem chg_yes {V:Nat → UInt8}:∀ {i:Nat},chg V i = true → ∃ j,j < i ∧ V j ≠ 0
 | 0,h => by simp [chg] at h
 | i + 1,h => by
  simp only [chg,Bool.or_eq_true,bne_iff_ne] at h
  rcases h with h | h
  ·obtain ⟨j,h1,h2⟩:=chg_yes h; exact ⟨j,by omega,h2⟩
  ·exact ⟨i,by omega,h⟩
theorem chg_no {V:Nat → UInt8}:∀ {i:Nat},chg V i = false → ∀ j,j < i → V j = 0
 | 0,_ => fun j hj => by omega
 | i + 1,h => fun j hj => by
  simp only [chg,Bool.or_eq_false_iff,bne_eq_false_iff_eq] at h
  by_cases q:j = i
  ·subst q; exact h.2
  ·exact chg_no h.1 j (by omega)
def turnB (V:Nat → UInt8) (k i:Nat) (E:List UInt8) (j:Nat):UInt8:=if k ≤ j ∧ j < k + i then E.getD j 0 ^^^ V (j - k) else E.getD j 0
theorem turnB_0 (V:Nat → UInt8) (k:Nat) (E:List UInt8) (j:Nat):turnB V k 0 E j = E.getD j 0:=by
 unfold turnB; rw [if_neg (by omega)]
theorem turnB_step (V:Nat → UInt8) (k i:Nat) (E:List UInt8) (j:Nat):turnB V k (i + 1) E j = if j = k + i then E.getD (k + i) 0 ^^^ V i else turnB V k i E j:=by
 unfold turnB
 by_cases h:j = k + i
 ·subst h
  rw [if_pos ⟨by omega,by omega⟩,if_pos rfl,show k + i - k = i by omega]
 ·rw [if_neg h]
  by_cases q:k ≤ j ∧ j < k + i
  ·rw [if_pos q,if_pos ⟨q.1,by omega⟩]
  ·rw [if_neg q,if_neg (by omega)]
theorem turnB_at (V:Nat → UInt8) (k i:Nat) {E:List UInt8} {j:Nat} (h:j < E.length):turnB V k i E j = (trn V k i E)[j]'(by rw [trn_len]; exact h):=by
 rw [trn_at h]
 unfold turnB
 rw [getD_at h]
theorem turnB_new (V:Nat → UInt8) (k i:Nat) (E:List UInt8):turnB V k i E (k + i) = E.getD (k + i) 0:=by
 unfold turnB; rw [if_neg (by omega)]
theorem BW.c_0 {W:World} {g N k:Nat} {E:List UInt8} {V:Nat → UInt8} (h:BW W g N (fun j => E.getD j 0)):BW W g N (turnB V k 0 E):=⟨fun j hj => by rw [turnB_0]; exact h.c j hj,h.f⟩
theorem bw_text {W:World} {g cap:Nat} {B:Nat → UInt8} {L:List UInt8} (h:BW W g L.length B) (e:∀ j (hj:j < L.length),B j = L[j]):(convert 73 9 (.slice (some ⟨g,0,none⟩) L.length cap)).run Tryz.prog W = .ok (.string (ba L)) W:=by
 refine run_convert_bytes_back W _ _ _ _ cap L Tryz.underlying73 und_byte und_str (fun j hj => ?_)
 have:=h.c j hj
 rw [e j hj] at this
 cases j with
 | zero => simpa [Addr.add] using this
 | succ j => simpa [Addr.add] using this
end Go.Proofs.YtbjabpodkaokjaaGreatDoor


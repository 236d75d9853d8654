import Derived.Test.YtbjabpodkaokjaaGreatDoorJ07
set_option linter.unusedVariables false
set_option linter.unusedSimpArgs false
set_option maxHeartbeats 4000000
set_option maxRecDepth 100000
namespace Go.Proofs.YtbjabpodkaokjaaGreatDoor
open Go.RowKit
abbrev IRow (w:World) (base:Nat) (v:Value) (zs:List Int):Prop:=w.ownsRow base 3 1 v zs.length (zs.map eI)
theorem ownsRow_shape {w:World}{base n size:Nat}{v:Value}{e:TypeId}{xs:List Value} (h:w.ownsRow base e size v n xs):∃ a c,v=.slice a n c:=by
 rcases h.2 with⟨rfl,h0⟩|⟨q,cap,cur,rfl,_⟩
 ·exact⟨none,0,by rw[h0]⟩
 ·exact⟨_,cap,rfl⟩
theorem ownsRow_keep {w w':World}{base n size g:Nat}{v:Value}{e:TypeId}{xs:List Value} (h:w.ownsRow base e size v n xs) (hg:w.grownBy w' (some g)) (hb:g<base):w'.ownsRow base e size v n xs:=
 h.kept hg (by
  cases e:v.ownBlock with
  |none=>exact .inl rfl
  |some k=>exact .inr (fun q=>by injection q with q;have:=(h.lt k e).1;omega))
theorem grown_new {w w2:World}{r:Option Nat} (h:w.grownBy w2 r) {b:Nat} (hb:w.heap.size≤b) (o:Nat) (v:Value):w.grownBy (w2.setCell ⟨b,o,none⟩ v) r:=
 ⟨h.os,h.tape,h.output,by simpa [World.setCell] using h.size,fun k h1 h2=>(Below.heap_setCell _ _ _ _ (by simp only;omega)).trans (h.block k h1 h2)⟩
theorem grown_alloc {w w2:World}{r:Option Nat} (h:w.grownBy w2 r) (o:Obj):w.grownBy (w2.alloc o) r:=
 ⟨h.os,h.tape,h.output,by have:=h.size;simp;omega,fun k h1 h2=>(Below.heap_alloc _ _ _ (Nat.lt_of_lt_of_le h1 h.size)).trans (h.block k h1 h2)⟩
theorem grown_own {w w2 w3:World}{r row:Option Nat} (h:w.grownBy w2 r) (k:w2.grownBy w3 row) (hr:∀ q,row=some q→w.heap.size≤q):w.grownBy w3 r:=
 ⟨k.os.trans h.os,k.tape.trans h.tape,k.output.trans h.output,Nat.le_trans h.size k.size,fun j h1 h2=>(k.block j (Nat.lt_of_lt_of_le h1 h.size) (fun e=>by have:=hr j e.symm;omega)).trans (h.block j h1 h2)⟩
theorem Rdr.set {w:World}{g b:Nat}{big:Bool}{l:List UInt8} (h:Rdr w g big l) (hb:b≠g) (o:Nat) (v:Value):Rdr (w.setCell ⟨b,o,none⟩ v) g big l:=h.of_block (Below.heap_setCell _ _ _ _ (by simpa using fun e=>hb e.symm))
theorem mkA_list (n:Nat):(mkA n (.int .i64 0)).toList=List.replicate n (eI 0):=by
 have:mkA n (.int .i64 0)=madeCells #[.int .i64 0] n:=rfl
 rw[this,toList_madeCells_one]
theorem dcell {w:World}{g c k:Nat}{base:Nat}{zs:List Int} (h:w.ownsRow base 3 1 (.slice (some ⟨g,0,none⟩) c c) c (zs.map eI++List.replicate (c-k) (eI 0))) (hz:zs.length=k) (hk:k<c):w.cell? ⟨g,k,none⟩=some (eI 0):=by
 rw[h.cellAt k (by omega),List.getElem?_append_right (by rw[List.length_map,hz];exact Nat.le_refl _),List.length_map,hz,Nat.sub_self,show c-k=(c-(k+1))+1 by omega,List.replicate_succ];rfl
theorem dense_r (w:World) (g:Nat) (big:Bool) (l:List UInt8) (c:Nat) (hc:c≤256) (h:Rdr w g big l) :
  Calls Tryz.prog 109 #[.pointer (some ⟨g,0,none⟩),.int .i64 0,.int .i64 c] w fun e w'=>∃ v,e=.returned v∧IRow w' w.heap.size v (rdD big c l).1∧RdOut g big w (rdD big c l).2 w':=by
 obtain⟨i0,hi,hz0,hz1,hz2⟩:=info_parts Tryz.infoI
 have hmk:=fun w=>make_eq Tryz.underlying40 hi hz0 hz1 hz2 c (by omega) (by unfold maxLen;omega) w
 have H:Hid (Rdr w g big l):=h
 have hgl:=h.lt
 clear h
 have HOW:Hid ((w.alloc (.cells (mkA c (.int .i64 0)) 3)).ownsRow w.heap.size 3 1 (.slice (some ⟨w.heap.size,0,none⟩) c c) c (List.replicate c (eI 0))):=by
  show World.ownsRow _ _ _ _ _ _ _
  have:=World.ownsRow_lit (base:=w.heap.size) (e:=3) (size:=1) w (mkA c (.int .i64 0)) c (Nat.le_refl _) (by unfold maxLen;omega) (by rw[←Array.length_toList,mkA_list];simp)
  rw[mkA_list] at this
  exact this
 have HR:Hid (RdOut g big w l (w.alloc (.cells (mkA c (.int .i64 0)) 3))):=⟨H.out.below ((Below.refl _ _).alloc (Nat.le_refl _) _),grown_alloc (grown_refl _ _) _⟩
 go_enter Tryz.func109,Tryz.ntmps109
 go_wp2
 go_loopw [18] (fun i wr=>∃ k:Nat,i=.int .i64 k∧k≤c∧wr.ownsRow w.heap.size 3 1 (.slice (some ⟨w.heap.size,0,none⟩) c c) c ((rdD big k l).1.map eI++List.replicate (c-k) (eI 0))∧RdOut g big w (rdD big k l).2 wr) (fun i _=>c-(intOf i).toNat)
 case atStart=>exact⟨0,rfl,Nat.zero_le _,by simpa [rdD] using HOW.out,HR.out⟩
 case round=>
  obtain⟨k,rfl,hk,how,hro⟩:=hrel
  clear HOW HR
  have HO:Hid (wr.ownsRow w.heap.size 3 1 (.slice (some ⟨w.heap.size,0,none⟩) c c) c ((rdD big k l).1.map eI++List.replicate (c-k) (eI 0))):=how
  have HR:Hid (RdOut g big w (rdD big k l).2 wr):=hro
  clear how hro
  by_cases hlt:k<c
  ·have hltI:(k:Int)<c:=by omega
   have hp:=pair_r wr g big (rdD big k l).2 HR.out.1
   have HP:Hid (Calls Tryz.prog 108 #[.pointer (some ⟨g,0,none⟩)] wr fun e w'=>e=.returned (.int .i64 (rdP big (rdD big k l).2).1)∧RdOut g big wr (rdP big (rdD big k l).2).2 w'):=hp
   clear hp
   obtain⟨z,hz⟩:∃ z,z=(rdP big (rdD big k l).2).1:=⟨_,rfl⟩
   obtain⟨l2,hl2⟩:∃ z,z=(rdP big (rdD big k l).2).2:=⟨_,rfl⟩
   rw[←hz,←hl2] at HP
   have HD:Hid (rdD big (k+1) l=((rdD big k l).1++[(z:Int)],l2)):=by show _=_;rw[rdD,hz,hl2]
   clear hz hl2
   go_wp2_with (go_at_call 108;refine HP.out.mono ?_;rintro e w2 ⟨rfl,ho2⟩;have HO2:Hid (RdOut g big wr l2 w2):=ho2;have how2:=ownsRow_keep HO.out ho2.2 (by omega);have d1:=dcell how2 (rdD_len _ _ _) hlt;have d2:=how2.frozenAt k;have HW2:Hid (w2.ownsRow w.heap.size 3 1 (.slice (some ⟨w.heap.size,0,none⟩) c c) c ((rdD big k l).1.map eI++List.replicate (c-k) (eI 0))):=how2;clear ho2 how2)
   go_roundw
   case rel=>
    refine⟨k+1,by go_num,by omega,?_,?_⟩
    ·rw[HD.out]
     have:=(HW2.out.stored k (eI z)).1
     rw[List.set_append_right _ _ (by rw[List.length_map,rdD_len];exact Nat.le_refl _),List.length_map,rdD_len,Nat.sub_self,show c-k=(c-(k+1))+1 by omega,List.replicate_succ,List.set_cons_zero] at this
     simpa using this
    ·rw[HD.out]
     exact⟨HO2.out.1.set (by omega) _ _,grown_new (grown_trans HR.out.2 HO2.out.2) (Nat.le_refl _) _ _⟩
   case measure=>simp[intOf]<;>omega
  ·have hkI:¬(k:Int)<c:=by omega
   have hkc:k=c:=by omega
   go_wp2
   go_ret
   have h1:=HO.out
   have h2:=HR.out
   rw[hkc,Nat.sub_self] at h1
   rw[hkc] at h2
   refine⟨_,rfl,?_,h2⟩
   have e:(rdD big c l).1.length=c:=rdD_len _ _ _
   show World.ownsRow _ _ _ _ _ _ _
   rw[e]
   simpa using h1
theorem sparse_r (w:World) (g:Nat) (big:Bool) (l:List UInt8) (c:Nat) (hc:c≤256) (h:Rdr w g big l) :
  Calls Tryz.prog 162 #[.pointer (some ⟨g,0,none⟩),.int .i64 c] w fun e w'=>∃ v,e=.returned v∧IRow w' w.heap.size v (rdSp big c l).1∧RdOut g big w (rdSp big c l).2 w':=by
 obtain⟨i0,hi0,hz0,hz1,hz2⟩:=info_parts Tryz.infoI
 have hgl:=h.lt
 have HP:Hid (Calls Tryz.prog 108 #[.pointer (some ⟨g,0,none⟩)] w fun e w'=>e=.returned (.int .i64 (rdP big l).1)∧RdOut g big w (rdP big l).2 w'):=pair_r w g big l h
 clear h
 have hn:=rdP_lt big l
 obtain⟨n,hne⟩:∃ n,n=(rdP big l).1:=⟨_,rfl⟩
 obtain⟨l1,hl1⟩:∃ n,n=(rdP big l).2:=⟨_,rfl⟩
 rw[←hne] at hn
 rw[←hne,←hl1] at HP
 have HE:Hid (rdSp big c l=rdR big c n l1):=by show _=_;rw[hne,hl1];rfl
 clear hne hl1
 go_enter Tryz.func162,Tryz.ntmps162
 go_wp2_with (go_at_call 108;refine HP.out.mono ?_;rintro e w1 ⟨rfl,ho1⟩;have HO1:Hid (RdOut g big w l1 w1):=ho1;clear ho1)
 go_loopw [5,10] (fun r i wr=>∃ j:Nat,i=.int .i64 j∧j≤n∧IRow wr w.heap.size r (rdR big c j l1).1∧RdOut g big w (rdR big c j l1).2 wr) (fun _ i _=>n-(intOf i).toNat)
 case atStart=>exact⟨0,rfl,Nat.zero_le _,World.ownsRow_nil _ _ _ _,HO1.out⟩
 case round=>
  obtain⟨j,rfl,hj,hir,hro⟩:=hrel
  clear HO1
  have hlen:=rdR_len big c l1 j
  by_cases hlt:j<n
  ·have hltI:(j:Int)<n:=by omega
   have HR:Hid (RdOut g big w (rdR big c j l1).2 wr):=hro
   obtain⟨S,hS⟩:∃ S,S=(rdR big c j l1).1:=⟨_,rfl⟩
   obtain⟨R,hR⟩:∃ S,S=(rdR big c j l1).2:=⟨_,rfl⟩
   have hq1:=rdP_lt big R
   have hq2:=rdP_lt big (rdP big R).2
   rw[←hS] at hir hlen
   rw[←hR] at HR
   obtain⟨m,hm⟩:∃ n,n=(rdP big R).1:=⟨_,rfl⟩
   obtain⟨R1,hR1⟩:∃ n,n=(rdP big R).2:=⟨_,rfl⟩
   obtain⟨z,hz⟩:∃ n,n=(rdP big R1).1:=⟨_,rfl⟩
   obtain⟨R2,hR2⟩:∃ n,n=(rdP big R1).2:=⟨_,rfl⟩
   rw[←hm] at hq1
   rw[←hR1,←hz] at hq2
   have HP1:Hid (Calls Tryz.prog 108 #[.pointer (some ⟨g,0,none⟩)] wr fun e w'=>e=.returned (.int .i64 m)∧RdOut g big wr R1 w'):=by
    show Calls _ _ _ _ _
    rw[hm,hR1];exact pair_r wr g big R HR.out.1
   have HP2:Hid (∀ w,Rdr w g big R1→Calls Tryz.prog 108 #[.pointer (some ⟨g,0,none⟩)] w fun e w'=>e=.returned (.int .i64 z)∧RdOut g big w R2 w'):=fun w h=>by rw[hz,hR2];exact pair_r w g big R1 h
   have HJ:Hid (rdR big c (j+1) l1=(S++List.replicate (min m (c-S.length)) (z:Int),R2)):=by
    show _=_
    simp only[rdR]
    rw[←hR,←hS,←hR1,←hm,←hz,←hR2]
   obtain⟨a5,c5,hform⟩:=ownsRow_shape hir
   subst hform
   have HI:Hid (IRow wr w.heap.size (.slice a5 S.length c5) S):=hir
   obtain⟨q,hq⟩:∃ q,q=min m (c-S.length):=⟨_,rfl⟩
   rw[←hq] at HJ
   have HQ:Hid (q=min m (c-S.length)):=hq
   have hqb:S.length+q≤256:=by omega
   clear hS hR hm hR1 hz hR2 hir hro hq
   by_cases hmn:(m:Int)≤c-S.length
   all_goals
    first|(have hmq:q=m:=(by have:=HQ.out;omega);have hmn':¬((c:Int)-S.length<m):=(by omega))|(have hmq:q=c-S.length:=(by have:=HQ.out;omega);have hmn':((c:Int)-S.length<m):=(by omega))
    go_wp2_with (first|(go_at_call 108;refine(HP2.out _ HO2.out.1).mono ?_;rintro e w3 ⟨rfl,ho3⟩;have HO3:Hid (RdOut g big wr R2 w3):=HO2.out.trans ho3;clear ho3)|(go_at_call 108;refine HP1.out.mono ?_;rintro e w2 ⟨rfl,ho2⟩;have HO2:Hid (RdOut g big wr R1 w2):=ho2;clear ho2))
   all_goals
    have HI3:Hid (IRow w3 w.heap.size (.slice a5 S.length c5) S):=ownsRow_keep HI.out HO3.out.2 (by omega)
    have HR3:Hid (RdOut g big w R2 w3):=HR.out.trans HO3.out
    have HSL:Hid (S.length=S.length):=rfl
    clear HO3 HO2 HP1 HP2 HI HR HP
    go_loopw [5,22] (fun r i wr=>∃ k:Nat,i=.int .i64 k∧k≤q∧IRow wr w.heap.size r (S++List.replicate k (z:Int))∧RdOut g big w R2 wr) (fun _ i _=>q-(intOf i).toNat)
    case atStart=>exact⟨0,rfl,Nat.zero_le _,by simpa using HI3.out,HR3.out⟩
    case round=>
     obtain⟨k,rfl,hk,hir,hro⟩:=hrel
     clear HI3 HR3
     have HI:Hid (IRow wr w.heap.size u5 (S++List.replicate k (z:Int))):=hir
     have HR:Hid (RdOut g big w R2 wr):=hro
     have hws:=hro.2.size
     clear hir hro
     by_cases hltq:k<q
     ·first|(have hltI:(k:Int)<m:=(by omega);clear hmn)|(have hltI:(k:Int)<(c:Int)-S.length:=(by omega);clear hmn)
      have HOW:Hid (wr.ownsRow w.heap.size 3 1 u5 (S.length+k) ((S++List.replicate k (z:Int)).map eI)):=by
       show World.ownsRow _ _ _ _ _ _ _
       have:=HI.out
       rw[IRow,show(S++List.replicate k (z:Int)).length=S.length+k by simp] at this
       exact this
      go_wp2_with (at_builtin;refine wpList_append_lies _ rfl (.tmp 24) (.tmp 26) 40 rfl w.heap.size 3 i0 (.int .i64 0) 1 8 Tryz.underlying40 hi0 hz0 hz1 hz2 rfl (by decide) u5 (S.length+k) ((S++List.replicate k (z:Int)).map eI) rfl (World.ownsRow.alloc HOW.out _) ⟨wr.heap.size,0,none⟩ 1 1 [.int .i64 (z:Int)] rfl rfl (one_cell_new _ _ _) (by simp[Value.oneCell']) (by omega) (by unfold maxLen;omega) (by omega) (by simp;omega) _ rfl ?_)
      intro g1 cap1 w4 hown hgr hat hlt4
      have HI4:Hid (IRow w4 w.heap.size (.slice (some ⟨g1,0,none⟩) (S.length+k+1) cap1) (S++List.replicate (k+1) (z:Int))):=by
       show w4.ownsRow w.heap.size 3 1 (.slice (some ⟨g1,0,none⟩) (S.length+k+1) cap1) (S++List.replicate (k+1) (z:Int)).length ((S++List.replicate (k+1) (z:Int)).map eI)
       rw[show(S++List.replicate (k+1) (z:Int)).length=S.length+k+1 by simp;omega,List.replicate_succ']
       simpa using hown
      have HR4:Hid (RdOut g big w R2 w4):=⟨(HR.out.1.below ((Below.refl _ _).alloc (Nat.le_refl _) _)).of_block (hgr.block g (by simp;omega) (fun e=>by have:=(HOW.out.lt g e.symm).1;omega)),grown_own (grown_alloc HR.out.2 _) hgr (fun q e=>(HOW.out.lt q e).1)⟩
      clear hown hgr hat
      go_wp2
      go_roundw
      case rel=>exact⟨k+1,by go_num,by omega,HI4.out,HR4.out⟩
      case measure=>simp[intOf]<;>omega
     ·have hkq:k=q:=by omega
      first|(have hltI:¬(k:Int)<m:=(by omega);clear hmn)|(have hltI:¬(k:Int)<(c:Int)-S.length:=(by omega);clear hmn)
      go_wp2
      go_roundw
      case rel=>
       refine⟨j+1,by go_num,by omega,?_,?_⟩
       ·rw[HJ.out,←hkq];exact HI.out
       ·rw[HJ.out];exact HR.out
      case measure=>simp[intOf]<;>omega
  ·have hkI:¬(j:Int)<n:=by omega
   have hjn:j=n:=by omega
   have HI:Hid (IRow wr w.heap.size u5 (rdR big c j l1).1∧RdOut g big w (rdR big c j l1).2 wr):=⟨hir,hro⟩
   clear hir hro
   go_wp2
   go_ret
   have h:=HI.out
   rw[hjn] at h
   rw[HE.out]
   exact⟨_,rfl,h.1,h.2⟩
theorem row1_r (w:World) (g:Nat) (big:Bool) (l:List UInt8) (c:Nat) (hc:c≤256) (h:Rdr w g big l) :
  Calls Tryz.prog 109 #[.pointer (some ⟨g,0,none⟩),.int .i64 1,.int .i64 c] w fun e w'=>∃ v,e=.returned v∧IRow w' w.heap.size v (rdSp big c l).1∧RdOut g big w (rdSp big c l).2 w':=by
 have HC:Hid (Calls Tryz.prog 162 #[.pointer (some ⟨g,0,none⟩),.int .i64 c] w fun e w'=>∃ v,e=.returned v∧IRow w' w.heap.size v (rdSp big c l).1∧RdOut g big w (rdSp big c l).2 w'):=sparse_r w g big l c hc h
 clear h
 go_enter Tryz.func109,Tryz.ntmps109
 go_wp2_with (go_at_call 162;refine HC.out.mono ?_;rintro e w1 ⟨v,rfl,hi1,ho1⟩;have HO1:Hid _:=ho1;have HI1:Hid _:=hi1;clear ho1 hi1)
 go_ret
 exact⟨_,rfl,HI1.out,HO1.out⟩
theorem row_r (w:World) (g:Nat) (big:Bool) (l:List UInt8) (kind c:Nat) (z:Int) (hz:z=(kind:Int)) (hk:kind≤1) (hc:c≤256) (h:Rdr w g big l) :
  Calls Tryz.prog 109 #[.pointer (some ⟨g,0,none⟩),.int .i64 z,.int .i64 c] w fun e w'=>∃ v,e=.returned v∧IRow w' w.heap.size v (rdRow kind big c l).1∧RdOut g big w (rdRow kind big c l).2 w':=by
 subst hz
 rcases(show kind=0∨kind=1 by omega) with rfl|rfl
 ·exact dense_r w g big l c hc h
 ·exact row1_r w g big l c hc h
end Go.Proofs.YtbjabpodkaokjaaGreatDoor

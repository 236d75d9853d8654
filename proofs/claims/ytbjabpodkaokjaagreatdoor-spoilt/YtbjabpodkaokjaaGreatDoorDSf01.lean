import Derived.Test.YtbjabpodkaokjaaGreatDoorJ01
import Derived.WalkKit
import Derived.Below
import Derived.RowKit
import Derived.KernelRfl
import Derived.Test.YtbjabpodkaokjaaGreatDoorJ02
import Derived.Deep.AppendLies
import Derived.Laws.BitsLemmas
import Derived.Laws.Bits64
import Derived.Test.YtbjabpodkaokjaaGreatDoorJ03
import Derived.BigRegion
import Derived.BigQuiet
import Derived.Maps.Own
import Derived.Deep.RegionHeld3
import Derived.Deep.RegionLaw
import Derived.Deep.QuietTactic
import Derived.DeepKeys4
import Derived.OwnWalk
import Derived.Lib.LazyBuf
import Derived.Great.BuildSlice
import Derived.Test.YtbjabpodkaokjaaGreatDoorJ04
import Derived.Test.YtbjabpodkaokjaaGreatDoorJ05
import Derived.Test.YtbjabpodkaokjaaGreatDoorJ06
import Derived.Shelf.Spec.TrailingZeros
import Derived.Test.YtbjabpodkaokjaaGreatDoorJ07
import Derived.Maps.AppendAt
import Derived.Lib.AppendStr
import Derived.RangeFuncNested
import Derived.RangeFuncBound
import Derived.RangeFuncCalls
import Derived.RangeFuncLeaves
import Derived.RangeFuncFrom
import Derived.Shelf.Abstract
import Derived.Shelf.RegionOpen
import Derived.OwnWalkIn
import Derived.TacticsInMore
import Derived.LoopNIn
import Derived.LoopIn
import Derived.Lib.BufferRead
import Derived.Test.YtbjabpodkaokjaaGreatDoorJ08
import Derived.Test.YtbjabpodkaokjaaGreatDoorJ09
import Derived.Deep.CutRange
import Derived.Test.YtbjabpodkaokjaaGreatDoorJ10
import Derived.Test.YtbjabpodkaokjaaGreatDoorJ11
import Derived.Test.YtbjabpodkaokjaaGreatDoorJ12
import GoSem.Claim
import GoSem.ClaimJoined
import GoSem.ClaimMapViews
import Derived.WalkSpells
import Derived.WalkLawsBesides
import Derived.Deep.Light
import Derived.Test.YtbjabpodkaokjaaGreatDoorJ13
import Derived.Deep.RegionWith
import Derived.Test.YtbjabpodkaokjaaGreatDoorJ14
import Derived.Test.YtbjabpodkaokjaaGreatDoorJ15
import Derived.Deep.Draws
import Derived.Test.YtbjabpodkaokjaaGreatDoorJ16
import Derived.Test.YtbjabpodkaokjaaGreatDoorJ17
import Derived.Test.YtbjabpodkaokjaaGreatDoorJ18
import Derived.Test.YtbjabpodkaokjaaGreatDoorJ19
import Derived.Test.YtbjabpodkaokjaaGreatDoorJ20
import Derived.Test.YtbjabpodkaokjaaGreatDoorJ21
import Derived.Test.YtbjabpodkaokjaaGreatDoorJ22
import Derived.Test.YtbjabpodkaokjaaGreatDoorJ23
import Derived.Test.YtbjabpodkaokjaaGreatDoorJ24
import Derived.Test.YtbjabpodkaokjaaGreatDoorJ25
import Derived.Test.YtbjabpodkaokjaaGreatDoorJ26
import Derived.Test.YtbjabpodkaokjaaGreatDoorJ27
import Derived.Sort.CutIn
import Derived.Test.YtbjabpodkaokjaaGreatDoorJ28
import Derived.Great.Walk
import Derived.Test.YtbjabpodkaokjaaGreatDoorJ29
import Derived.Lib.BytesEntry
import Derived.Test.YtbjabpodkaokjaaGreatDoorJ30
import Derived.Test.YtbjabpodkaokjaaGreatDoorJ31
import Derived.Test.YtbjabpodkaokjaaGreatDoorJ32
import Derived.Test.YtbjabpodkaokjaaGreatDoorJ33
import Derived.Test.YtbjabpodkaokjaaGreatDoorJ34
import Derived.Test.YtbjabpodkaokjaaGreatDoorJ35
import Derived.Test.YtbjabpodkaokjaaGreatDoorJ36
import Derived.Test.YtbjabpodkaokjaaGreatDoorS01
import Derived.ProofKit
import Derived.LaidMore
import Derived.OpenShut
import Derived.Stop.Joined
import Derived.Deep.Strs
import Derived.Lib.LaidTab
import Derived.Test.YtbjabpodkaokjaaGreatDoorS02
import Derived.BigGuard
import Derived.Test.YtbjabpodkaokjaaGreatDoorS03
import Derived.Test.YtbjabpodkaokjaaGreatDoorS04
import Derived.Test.YtbjabpodkaokjaaGreatDoorS05
import Derived.Test.YtbjabpodkaokjaaGreatDoorS06
import Derived.Lib.ConvBytes
import Derived.Test.YtbjabpodkaokjaaGreatDoorS07
import Derived.Test.YtbjabpodkaokjaaGreatDoorS08
import Derived.Test.YtbjabpodkaokjaaGreatDoorS09
import Derived.SevenTiedAt
import Derived.ChangeSlices
import Derived.Carry
set_option linter.unusedVariables false
set_option linter.unusedSimpArgs false
set_option maxHeartbeats 4000000
set_option maxRecDepth 100000
namespace Go.Proofs.YtbjabpodkaokjaaGreatDoor
theorem rdP_pr {n:Nat} (h:n<65536) (big:Bool) (l:List UInt8):rdP big (pr big n++l)=(n,l):=by
 cases big<;>simp[rdP,pr,rdS]<;>omega
theorem rdS_bt (b:UInt8) (l:List UInt8):rdS (b::l)=(b.toNat,l):=rfl
theorem rdD_wr (big:Bool) (row:List Int):∀(n:Nat) (l:List UInt8),n≤row.length→(∀ z∈row,okZ z)→rdD big n ((row.take n).flatMap (fun z=>pr big z.toNat)++l)=(row.take n,l)
 |0,l,_,_=>by simp[rdD]
 |n+1,l,h,ho=>by
  have e:row.take (n+1)=row.take n++[row[n]]:=by rw[List.take_add_one,List.getElem?_eq_getElem (by omega)];rfl
  have hz:=ho row[n] (List.getElem_mem _)
  rw[e,List.flatMap_append,List.append_assoc]
  simp only[List.flatMap_cons,List.flatMap_nil,List.append_nil,rdD]
  rw[rdD_wr big row n _ (by omega) ho,rdP_pr (by have:=hz.1;have:=hz.2;omega)]
  have h3:((row[n].toNat:Nat):Int)=row[n]:=by have:=hz.1;omega
  simp only[h3]
def expd (rs:List (Nat×Int)):List Int:=rs.flatMap fun r=>List.replicate r.1 r.2
theorem expd_step (rs:List (Nat×Int)) (z:Int):expd (stepR rs z)=expd rs++[z]:=by
 rcases List.eq_nil_or_concat rs with rfl|⟨i,⟨c,y⟩,rfl⟩
 ·simp[stepR,expd]
 ·simp only[stepR,List.concat_eq_append,List.getLast?_append,List.getLast?_singleton,Option.some_or,List.dropLast_concat]
  split
  ·rename_i h
   subst h
   simp[expd,List.replicate_succ']
  ·simp[expd]
theorem expd_foldl (row:List Int):∀ rs,expd (row.foldl stepR rs)=expd rs++row:=by
 induction row with
 |nil=>simp
 |cons z t ih=>intro rs;rw[List.foldl_cons,ih,expd_step];simp
theorem expd_runs (row:List Int):expd (runs row)=row:=by rw[runs,expd_foldl];rfl
theorem rdR_wr (big:Bool) (classes:Nat) (rs:List (Nat×Int)) (hc:(expd rs).length≤classes) (h1:∀ r∈rs,r.1<65536∧okZ r.2):∀(n:Nat) (l:List UInt8),n≤rs.length→rdR big classes n ((rs.take n).flatMap (wrR big)++l)=(expd (rs.take n),l)
 |0,l,_=>by simp[rdR,expd]
 |n+1,l,h=>by
  have e:rs.take (n+1)=rs.take n++[rs[n]]:=by rw[List.take_add_one,List.getElem?_eq_getElem (by omega)];rfl
  have hr:=h1 rs[n] (List.getElem_mem _)
  have hz:=hr.2
  have hle:(expd (rs.take n)).length+rs[n].1≤classes:=by
   have e2:expd rs=expd (rs.take (n+1))++expd (rs.drop (n+1)):=by unfold expd;rw[←List.flatMap_append,List.take_append_drop]
   have e3:(expd (rs.take (n+1))).length=(expd (rs.take n)).length+rs[n].1:=by rw[e];unfold expd;rw[List.flatMap_append,List.length_append];simp only[List.flatMap_cons,List.flatMap_nil,List.append_nil,List.length_replicate]
   have:(expd rs).length=(expd (rs.take (n+1))).length+(expd (rs.drop (n+1))).length:=by rw[e2];simp
   omega
  rw[e,List.flatMap_append,List.append_assoc]
  simp only[List.flatMap_cons,List.flatMap_nil,List.append_nil,rdR]
  rw[rdR_wr big classes rs hc h1 n _ (by omega)]
  have hz1:=hz.1
  have hz2:=hz.2
  simp only[wrR,List.append_assoc]
  rw[rdP_pr hr.1]
  simp only
  rw[rdP_pr (by omega)]
  simp only[Prod.mk.injEq,and_true]
  rw[Nat.min_eq_left (by omega),show((rs[n].2.toNat:Nat):Int)=rs[n].2 by omega]
  unfold expd
  rw[List.flatMap_append]
  simp only[List.flatMap_cons,List.flatMap_nil,List.append_nil]
theorem rdRow_wr (kind:Nat) (big:Bool) (row:List Int) (l:List UInt8) (hl:row.length≤256) (ho:∀ z∈row,okZ z):rdRow kind big row.length (wrRow kind big row++l)=(row,l):=by
 unfold rdRow wrRow
 split
 ·unfold rdSp
  have hr:=runs_len row
  rw[List.append_assoc,rdP_pr (by omega)]
  simp only
  have h:=rdR_wr big row.length (runs row) (by rw[expd_runs];exact Nat.le_refl _) (fun r hr=>by have:=runs_mem row r hr;exact⟨by omega,ho _ this.2⟩) (runs row).length l (Nat.le_refl _)
  rw[List.take_length,expd_runs] at h
  exact h
 ·have h:=rdD_wr big row row.length l (Nat.le_refl _) ho
  rw[List.take_length] at h
  exact h
theorem rdA_wr (acc:List Bool):∀(n:Nat) (l:List UInt8),n≤acc.length→rdA n ((acc.take n).map wrA++l)=(acc.take n,l)
 |0,l,_=>by simp[rdA]
 |n+1,l,h=>by
  have e:acc.take (n+1)=acc.take n++[acc[n]]:=by rw[List.take_add_one,List.getElem?_eq_getElem (by omega)];rfl
  rw[e,List.map_append,List.append_assoc]
  simp only[List.map_cons,List.map_nil,rdA]
  rw[rdA_wr acc n _ (by omega)]
  cases h:acc[n]<;>simp[rdS,wrA,bt]
theorem rdRs_wr (kind:Nat) (big:Bool) (classes:Nat) (hc:classes≤256) (next:List (List Int)) (h1:∀ r∈next,r.length=classes∧∀ z∈r,okZ z):∀(n:Nat) (l:List UInt8),n≤next.length→rdRs kind big classes n ((next.take n).flatMap (wrRow kind big)++l)=(next.take n,l)
 |0,l,_=>by simp[rdRs]
 |n+1,l,h=>by
  have e:next.take (n+1)=next.take n++[next[n]]:=by rw[List.take_add_one,List.getElem?_eq_getElem (by omega)];rfl
  have hr:=h1 next[n] (List.getElem_mem _)
  rw[e,List.flatMap_append,List.append_assoc]
  simp only[List.flatMap_cons,List.flatMap_nil,List.append_nil,rdRs]
  rw[rdRs_wr kind big classes hc next h1 n _ (by omega)]
  have:=rdRow_wr kind big next[n] l (by omega) hr.2
  rw[hr.1] at this
  simp only[this]
structure Fits (t:Tb) (c:Nat):Prop where
 a1:1≤t.acc.length
 a2:t.acc.length≤200
 n:t.next.length=t.acc.length
 cc:c≤256
 cls:t.cls.length=256
 st:okZ t.start
 r:∀ r∈t.next,r.length=c∧∀ z∈r,okZ z
theorem rdT_wr {t:Tb}{c:Nat} (h:Fits t c) {kind:Nat} (hk:kind≤1) (big:Bool) (l:List UInt8):rdT (body t kind big++l)=some (t,kind,big):=by
 obtain⟨f,b,st,cls,acc,next⟩:=t
 obtain⟨a1,a2,n,hc,hcl,hst,hr⟩:=h
 simp only at *
 have hh:(next.headD []).length=c:=by
  cases next with
  |nil=>simp at n;omega
  |cons r t=>exact(hr r (by simp)).1
 have hst1:=hst.1
 have hst2:=hst.2
 have e:body ⟨f,b,st,cls,acc,next⟩ kind big++l=mk5++(UInt8.ofNat kind::UInt8.ofNat (bt f+2*bt b)::wrA big::(pr big acc.length++(pr big c++(pr big st.toNat++(cls++(acc.map wrA++(next.flatMap (wrRow kind big)++l))))))):=by
  simp only[body,hd,hh,List.append_assoc,List.cons_append,List.nil_append]
 rw[e]
 have hbig:((wrA big).toNat==1)=big:=by cases big<;>rfl
 have hk':(UInt8.ofNat kind).toNat=kind:=by simp;omega
 have hA:=rdA_wr acc acc.length (next.flatMap (wrRow kind big)++l) (Nat.le_refl _)
 have hN:=rdRs_wr kind big c hc next hr next.length l (Nat.le_refl _)
 rw[List.take_length] at hA hN
 rw[n] at hN
 unfold rdT
 have hd5:(mk5++(UInt8.ofNat kind::UInt8.ofNat (bt f+2*bt b)::wrA big::(pr big acc.length++(pr big c++(pr big st.toNat++(cls++(acc.map wrA++(next.flatMap (wrRow kind big)++l)))))))).drop 5=(UInt8.ofNat kind::UInt8.ofNat (bt f+2*bt b)::wrA big::(pr big acc.length++(pr big c++(pr big st.toNat++(cls++(acc.map wrA++(next.flatMap (wrRow kind big)++l))))))):=rfl
 rw[hd5]
 simp only[rdS_bt,hbig,hk']
 rw[rdP_pr (by omega)]
 simp only
 rw[rdP_pr (by omega)]
 simp only
 rw[rdP_pr (by omega)]
 simp only
 rw[if_neg (by omega)]
 have hdr:(cls++(acc.map wrA++(next.flatMap (wrRow kind big)++l))).drop 256=acc.map wrA++(next.flatMap (wrRow kind big)++l):=by
  rw[←hcl];simp
 have htk:(cls++(acc.map wrA++(next.flatMap (wrRow kind big)++l))).take 256=cls:=by
  rw[←hcl];simp
 rw[hdr,htk,hA]
 simp only
 rw[hN]
 have h1:((UInt8.ofNat (bt f+2*bt b)).toNat%2==1)=f:=by cases f<;>cases b<;>rfl
 have h2:((UInt8.ofNat (bt f+2*bt b)).toNat / 2%2==1)=b:=by cases f<;>cases b<;>rfl
 have h3:((st.toNat:Nat):Int)=st:=by omega
 simp only[h1,h2,h3]
section
variable {P:Program} (w:World)
end
theorem cStep_lt (b k c:Nat) (h:c<4294967296):cStep b k c<4294967296:=by
 unfold cStep
 split
 ·omega
 ·exact xor32 (by omega) (by omega)
theorem crcN_lt (b c:Nat) (h:c<4294967296):∀ k,crcN b k c<4294967296
 |0=>h
 |k+1=>cStep_lt _ _ _ (crcN_lt b c h k)
theorem crcF_lt:∀(l:List UInt8) (c:Nat),c<4294967296→crcF c l<4294967296
 |[],_,h=>h
 |b::t,c,h=>crcF_lt t _ (crcN_lt _ _ h 8)
theorem pN_lt (x:Nat) (h:x<4294967296):∀ k,pN x k<4294967296
 |0=>h
 |k+1=>pStep_lt _ (pN_lt x h k)
def rfR (big:Bool) (classes:Nat):Nat→List UInt8→List Int×List UInt8
 |0,l=>([],l)
 |j+1,l=>
  if (rfR big classes j l).1.length≤classes then
   ((rfR big classes j l).1++List.replicate (min (rdP big (rfR big classes j l).2).1 (classes+1-(rfR big classes j l).1.length)) ((rdP big (rdP big (rfR big classes j l).2).2).1:Int),(rdP big (rdP big (rfR big classes j l).2).2).2)
  else rfR big classes j l
theorem rfR_wr (big:Bool) (classes:Nat) (rs:List (Nat×Int)) (hc:(expd rs).length≤classes) (h1:∀ r∈rs,r.1<65536∧okZ r.2):∀(n:Nat) (l:List UInt8),n≤rs.length→rfR big classes n ((rs.take n).flatMap (wrR big)++l)=(expd (rs.take n),l)
 |0,l,_=>by simp[rfR,expd]
 |n+1,l,h=>by
  have e:rs.take (n+1)=rs.take n++[rs[n]]:=by rw[List.take_add_one,List.getElem?_eq_getElem (by omega)];rfl
  have hr:=h1 rs[n] (List.getElem_mem _)
  have hz:=hr.2
  have hle:(expd (rs.take n)).length+rs[n].1≤classes:=by
   have e2:expd rs=expd (rs.take (n+1))++expd (rs.drop (n+1)):=by unfold expd;rw[←List.flatMap_append,List.take_append_drop]
   have e3:(expd (rs.take (n+1))).length=(expd (rs.take n)).length+rs[n].1:=by rw[e];unfold expd;rw[List.flatMap_append,List.length_append];simp only[List.flatMap_cons,List.flatMap_nil,List.append_nil,List.length_replicate]
   have:(expd rs).length=(expd (rs.take (n+1))).length+(expd (rs.drop (n+1))).length:=by rw[e2];simp
   omega
  rw[e,List.flatMap_append,List.append_assoc]
  simp only[List.flatMap_cons,List.flatMap_nil,List.append_nil,rfR]
  rw[rfR_wr big classes rs hc h1 n _ (by omega)]
  have hz1:=hz.1
  have hz2:=hz.2
  simp only[wrR,List.append_assoc]
  rw[if_pos (by omega),rdP_pr hr.1]
  simp only
  rw[rdP_pr (by omega)]
  simp only[Prod.mk.injEq,and_true]
  rw[Nat.min_eq_left (by omega),show((rs[n].2.toNat:Nat):Int)=rs[n].2 by omega]
  unfold expd
  rw[List.flatMap_append]
  simp only[List.flatMap_cons,List.flatMap_nil,List.append_nil]
def rfRow (kind:Nat) (big:Bool) (classes:Nat) (l:List UInt8):List Int×List UInt8:=if kind=0 then rdD big classes l else rfR big classes (rdP big l).1 (rdP big l).2
theorem rfRow_wr {kind:Nat} (hk:kind≤1) (big:Bool) (row:List Int) (l:List UInt8) (hl:row.length≤256) (ho:∀ z∈row,okZ z):rfRow kind big row.length (wrRow kind big row++l)=(row,l):=by
 unfold rfRow wrRow
 by_cases h0:kind=0
 ·rw[if_pos h0,if_neg (by omega)]
  have h:=rdD_wr big row row.length l (Nat.le_refl _) ho
  rw[List.take_length] at h
  exact h
 ·rw[if_neg h0,if_pos (by omega)]
  have hr:=runs_len row
  rw[List.append_assoc,rdP_pr (by omega)]
  simp only
  have h:=rfR_wr big row.length (runs row) (by rw[expd_runs];exact Nat.le_refl _) (fun r hr=>by have:=runs_mem row r hr;exact⟨by omega,ho _ this.2⟩) (runs row).length l (Nat.le_refl _)
  rw[List.take_length,expd_runs] at h
  exact h
def rfRs (kind:Nat) (big:Bool) (classes:Nat):Nat→List UInt8→List (List Int)×List UInt8
 |0,l=>([],l)
 |n+1,l=>((rfRs kind big classes n l).1++[(rfRow kind big classes (rfRs kind big classes n l).2).1],(rfRow kind big classes (rfRs kind big classes n l).2).2)
theorem rfRs_wr {kind:Nat} (hk:kind≤1) (big:Bool) (classes:Nat) (hc:classes≤256) (next:List (List Int)) (h1:∀ r∈next,r.length=classes∧∀ z∈r,okZ z):∀(n:Nat) (l:List UInt8),n≤next.length→rfRs kind big classes n ((next.take n).flatMap (wrRow kind big)++l)=(next.take n,l)
 |0,l,_=>by simp[rfRs]
 |n+1,l,h=>by
  have e:next.take (n+1)=next.take n++[next[n]]:=by rw[List.take_add_one,List.getElem?_eq_getElem (by omega)];rfl
  have hr:=h1 next[n] (List.getElem_mem _)
  rw[e,List.flatMap_append,List.append_assoc]
  simp only[List.flatMap_cons,List.flatMap_nil,List.append_nil,rfRs]
  rw[rfRs_wr hk big classes hc next h1 n _ (by omega)]
  have:=rfRow_wr hk big next[n] l (by omega) hr.2
  rw[hr.1] at this
  simp only[this]
def rfT (b:List UInt8):Option (Tb×Nat×Bool):=
 if b.length<270∨1<(b.getD 5 0).toNat then none
 else
  let big:=(b.getD 7 0).toNat==1
  let s:=rdP big ((b.drop 8).take 6)
  let c:=rdP big s.2
  let st:=rdP big c.2
  if 200<s.1∨256<c.1 then none
  else
   let a:=rdA s.1 (b.drop 270)
   let n:=rfRs (b.getD 5 0).toNat big c.1 s.1 a.2
   some (⟨(b.getD 6 0).toNat%2==1,(b.getD 6 0).toNat / 2%2==1,st.1,(b.drop 14).take 256,a.1,n.1⟩,(b.getD 5 0).toNat,big)
theorem rfT_wr {t:Tb}{c:Nat} (h:Fits t c) {kind:Nat} (hk:kind≤1) (big:Bool) (l:List UInt8):rfT (body t kind big++l)=some (t,kind,big):=by
 obtain⟨f,b,st,cls,acc,next⟩:=t
 obtain⟨a1,a2,n,hc,hcl,hst,hr⟩:=h
 simp only at *
 have hh:(next.headD []).length=c:=by
  cases next with
  |nil=>simp at n;omega
  |cons r t=>exact(hr r (by simp)).1
 have hst1:=hst.1
 have hst2:=hst.2
 obtain⟨p1,p2,hp⟩:∃ p1 p2,pr big acc.length=[p1,p2]:=by cases big<;>exact⟨_,_,rfl⟩
 obtain⟨q1,q2,hq⟩:∃ p1 p2,pr big c=[p1,p2]:=by cases big<;>exact⟨_,_,rfl⟩
 obtain⟨r1,r2,hr'⟩:∃ p1 p2,pr big st.toNat=[p1,p2]:=by cases big<;>exact⟨_,_,rfl⟩
 have e:body ⟨f,b,st,cls,acc,next⟩ kind big++l=72::65::83::80::1::UInt8.ofNat kind::UInt8.ofNat (bt f+2*bt b)::wrA big::p1::p2::q1::q2::r1::r2::(cls++(acc.map wrA++(next.flatMap (wrRow kind big)++l))):=by
  simp only[body,hd,hh,hp,hq,hr',mk5,List.append_assoc,List.cons_append,List.nil_append]
 rw[e]
 generalize hrest:cls++(acc.map wrA++(next.flatMap (wrRow kind big)++l))=rest
 have hlen:256≤rest.length:=by rw[←hrest];simp;omega
 have hbig:((wrA big).toNat==1)=big:=by cases big<;>rfl
 have hk':(UInt8.ofNat kind).toNat=kind:=by simp;omega
 have g5:(72::65::83::80::1::UInt8.ofNat kind::UInt8.ofNat (bt f+2*bt b)::wrA big::p1::p2::q1::q2::r1::r2::rest).getD 5 0=UInt8.ofNat kind:=rfl
 have g6:(72::65::83::80::1::UInt8.ofNat kind::UInt8.ofNat (bt f+2*bt b)::wrA big::p1::p2::q1::q2::r1::r2::rest).getD 6 0=UInt8.ofNat (bt f+2*bt b):=rfl
 have g7:(72::65::83::80::1::UInt8.ofNat kind::UInt8.ofNat (bt f+2*bt b)::wrA big::p1::p2::q1::q2::r1::r2::rest).getD 7 0=wrA big:=rfl
 have g8:((72::65::83::80::1::UInt8.ofNat kind::UInt8.ofNat (bt f+2*bt b)::wrA big::p1::p2::q1::q2::r1::r2::rest).drop 8).take 6=pr big acc.length++(pr big c++(pr big st.toNat++[])):=by rw[hp,hq,hr'];rfl
 have g14:(72::65::83::80::1::UInt8.ofNat kind::UInt8.ofNat (bt f+2*bt b)::wrA big::p1::p2::q1::q2::r1::r2::rest).drop 14=rest:=rfl
 have g270:(72::65::83::80::1::UInt8.ofNat kind::UInt8.ofNat (bt f+2*bt b)::wrA big::p1::p2::q1::q2::r1::r2::rest).drop 270=acc.map wrA++(next.flatMap (wrRow kind big)++l):=by
  rw[show(270:Nat)=14+256 from rfl,←List.drop_drop,g14,←hrest,←hcl];simp
 unfold rfT
 rw[g5,g6,g7,g8,g14,g270,hk',hbig,if_neg (by simp only[List.length_cons];omega)]
 have hA:=rdA_wr acc acc.length (next.flatMap (wrRow kind big)++l) (Nat.le_refl _)
 have hN:=rfRs_wr hk big c hc next hr next.length l (Nat.le_refl _)
 rw[List.take_length] at hA hN
 rw[n] at hN
 simp only
 rw[rdP_pr (by omega)]
 simp only
 rw[rdP_pr (by omega)]
 simp only
 rw[rdP_pr (by omega)]
 simp only
 rw[if_neg (by omega),hA]
 simp only
 rw[hN]
 have htk:rest.take 256=cls:=by rw[←hrest,←hcl];simp
 have h1:((UInt8.ofNat (bt f+2*bt b)).toNat%2==1)=f:=by cases f<;>cases b<;>rfl
 have h2:((UInt8.ofNat (bt f+2*bt b)).toNat / 2%2==1)=b:=by cases f<;>cases b<;>rfl
 have h3:((st.toNat:Nat):Int)=st:=by omega
 simp only[h1,h2,h3,htk]
def loadM (P:Tb→Bool) (b:List UInt8):Option Tb:=
 match rdT b with
 |none=>none
 |some (t,k,g)=>if enc t k g=b then(if P t=true then some t else none) else none
theorem rdT_kind {b:List UInt8}{t:Tb}{k:Nat}{g:Bool} (h:rdT b=some (t,k,g)):k≤1∧k=(b.getD 5 0).toNat∧g=((b.getD 7 0).toNat==1):=by
 unfold rdT at h
 simp only at h
 split at h
 ·simp at h
 ·rename_i hn
  simp only[Option.some.injEq,Prod.mk.injEq] at h
  obtain⟨_,rfl,rfl⟩:=h
  have hS:∀ l:List UInt8,(rdS l).1=(l.getD 0 0).toNat∧(rdS l).2=l.drop 1:=fun l=>by cases l<;>simp[rdS]
  have e5:(rdS (b.drop 5)).1=(b.getD 5 0).toNat:=by rw[(hS _).1];simp[List.getD_eq_getElem?_getD,List.getElem?_drop]
  refine⟨by omega,e5,?_⟩
  congr 1
  rw[(hS _).1,(hS _).2,(hS _).2,List.drop_drop,List.drop_drop];simp[List.getD_eq_getElem?_getD,List.getElem?_drop]
theorem loadM_some {P:Tb→Bool} (hP:∀ t,P t=true→∃ c,Fits t c) {b:List UInt8}{t:Tb}:loadM P b=some t↔∃ k g,k≤1∧P t=true∧enc t k g=b:=by
 constructor
 ·intro h
  unfold loadM at h
  split at h
  ·simp at h
  ·rename_i t' k g hr
   split at h
   ·rename_i he
    split at h
    ·rename_i hp
     simp only[Option.some.injEq] at h
     subst h
     exact⟨k,g,(rdT_kind hr).1,hp,he⟩
    ·simp at h
   ·simp at h
 ·rintro⟨k,g,hk,hp,rfl⟩
  obtain⟨c,hf⟩:=hP t hp
  have:=rdT_wr hf hk g (num4 g (crc (body t k g)))
  unfold loadM
  rw[show enc t k g=body t k g++num4 g (crc (body t k g)) from rfl,this]
  simp only
  rw[if_pos (show enc t k g=body t k g++num4 g (crc (body t k g)) from rfl),if_pos hp]
open Go.RowKit
theorem TbOk.fits {t:Tb}{c:Nat} (h:TbOk t c):Fits t c:=by
 have h2:=h.c256
 have:=h.a2
 have:=h.s1
 have:=h.s2
 exact⟨h.a1,h.a2,h.n,h2.1,h2.2,⟨by omega,by omega⟩,fun r hr=>⟨(h.r r hr).1,fun z hz=>by have:=(h.r r hr).2 z hz;exact⟨this.1,by omega⟩⟩⟩
theorem new_no (w:World) (t:Tb) (va vn:Value) (h:TabIn w t va vn) (hs:Small t) (hf:isTb t=false) :
  Calls Tryz.prog 42 #[tv t va vn] w fun e w'=>e=.returned (.tuple #[.pointer none,.bool false])∧Below w.heap.size w w':=by
 have hB:Below w.heap.size w (w.alloc (.cells #[.bool t.front,.bool t.back,.int .i64 t.start,.string (ba t.cls),va,vn] 33)):=(Below.refl _ _).alloc (Nat.le_refl _) _
 have hi:=isTable_any _ t va vn (h.below hB) hs
 rw[hf] at hi
 have HB:Hid (Below w.heap.size w (w.alloc (.cells #[.bool t.front,.bool t.back,.int .i64 t.start,.string (ba t.cls),va,vn] 33))):=hB
 clear hB h
 go_enter Tryz.func42,Tryz.ntmps42
 go_wp2_with (go_at_call 76;refine hi.mono ?_;rintro e w1 ⟨rfl,hb⟩)
 go_ret2
 exact⟨rfl,HB.out.trans (hb.mono (by simp))⟩
theorem new_yes (w:World) (t:Tb) (va vn:Value) (h:TabIn w t va vn) (hs:Small t) (hf:isTb t=true) :
  Calls Tryz.prog 42 #[tv t va vn] w fun e w'=>∃ g,e=.returned (.tuple #[.pointer (some ⟨g,0,none⟩),.bool true])∧w.heap.size≤g∧AuIn w' g t∧Below w.heap.size w w':=by
 refine(new_yesN w t va vn h hs hf).mono ?_
 rintro e w' ⟨g,h1,h2,h3,h4⟩
 exact⟨g,h1,h2,h3 _ (Hi.refl _ _),h4⟩
open Go.RowKit Go.Shelf
theorem TbOk.wok {t:Tb}{c:Nat} (h:TbOk t c):Wok t:=by
 have h2:=h.c256
 have f:=h.fits
 have:=h.n
 have:=h.a1
 have:=h.a2
 exact⟨h.a2,by omega,by omega,f.st,fun r hr=>⟨by have:=(h.r r hr).1;omega,(f.r r hr).2⟩,by omega⟩
theorem mtable_any (w:World) (m:Nat) (t:Tb) (c:Nat) (h:Mch w m t c) :
  Calls Tryz.prog 16 #[.pointer (some ⟨m,0,none⟩)] w fun e w'=>∃ tA tB gs,e=.returned (.tuple #[tv t (.slice (some ⟨tA,0,none⟩) t.acc.length t.acc.length) (.slice (some ⟨tB,0,none⟩) t.next.length t.next.length),.int .i64 0])∧TabN w.heap.size w' t tA tB gs∧Below w.heap.size w w':=by
 obtain⟨g,h1,h2,h3⟩:=h
 have hB:Below w.heap.size w (w.alloc (.cells tc0 33)):=(Below.refl _ _).alloc (Nat.le_refl _) _
 have hl:=table_any (w.alloc (.cells tc0 33)) g t c (h2.below hB) h3
 have h1':=cell_below hB h1
 have HB:Hid (Below w.heap.size w (w.alloc (.cells tc0 33))):=hB
 rw[World.size_alloc] at hl
 clear h2 h3 hB
 go_enter Tryz.func16,Tryz.ntmps16
 go_wp2_with (go_at_call 50;refine hl.mono ?_;rintro e w1 ⟨tA,tB,gs,rfl,hn,hb⟩;obtain⟨r0,r1,r2,r3,r4,r5⟩:=box6 ((hb.block w.heap.size (by omega)).trans (heap_alloc_new w _));have rf:=boxfz ((hb.block w.heap.size (by omega)).trans (heap_alloc_new w (.cells tc0 33)));have HN:Hid (TabN (w.heap.size+1) w1 t tA tB gs):=hn;have HB1:Hid (Below w.heap.size w w1):=HB.out.trans (hb.mono (by omega));clear hb hn)
 refine bodyPost_ret (v:=.tuple #[tv t (.slice (some ⟨tA,0,none⟩) t.acc.length t.acc.length) (.slice (some ⟨tB,0,none⟩) t.next.length t.next.length),.int .i64 0]) (by simp[results,Tryz.results16,go_sem,r0,r1,r2,r3,r4,r5]) rfl ?_
 refine⟨tA,tB,gs,rfl,?_,?_⟩
 ·exact((((((HN.out.set (by omega) _ _).set (by omega) _ _).set (by omega) _ _).set (by omega) _ _).set (by omega) _ _).set (by omega) _ _).weak (by omega)
 ·exact(by(repeat first|(with_reducible refine Below.setCell ?_ (by first|exact Nat.le_refl _|(simp;done)|(simp;omega)) _)|(with_reducible refine Below.alloc ?_ (by first|omega|(simp;done)|(simp;omega)) _)|(with_reducible refine Below.drew ?_));exact HB1.out)
theorem encode_any (w:World) (m:Nat) (t:Tb) (c:Nat) (h:Mch w m t c) (kind:Nat) (hk:kind≤1) (big:Bool) :
  Calls Tryz.prog 34 #[.pointer (some ⟨m,0,none⟩),.int .i64 kind,.bool big] w fun e w'=>e=.returned (.tuple #[.string (ba (enc t kind big)),.int .i64 0])∧Below w.heap.size w w':=by
 obtain⟨g,h1,h2,h3⟩:=h
 have hl:=table_any w g t c h2 h3
 have HW:Hid (Wok t):=h3.wok
 clear h2 h3
 rcases(show kind=0∨kind=1 by omega) with rfl|rfl
 ·go_enter Tryz.func34,Tryz.ntmps34
  go_wp2_with (first|(go_at_call 59;refine(write_any w1 t _ _ 0 big (by omega) HN.out.tab HW.out).mono ?_;rintro e w2 ⟨rfl,hb2⟩)|(go_at_call 50;refine hl.mono ?_;rintro e w1 ⟨tA,tB,gs,rfl,hn,hb⟩;have HN:Hid (TabN w.heap.size w1 t tA tB gs):=hn;clear hn))
  go_ret2
  exact⟨rfl,hb.trans (hb2.mono hb.size)⟩
 ·go_enter Tryz.func34,Tryz.ntmps34
  go_wp2_with (first|(go_at_call 59;refine(write_any w1 t _ _ 1 big (by omega) HN.out.tab HW.out).mono ?_;rintro e w2 ⟨rfl,hb2⟩)|(go_at_call 50;refine hl.mono ?_;rintro e w1 ⟨tA,tB,gs,rfl,hn,hb⟩;have HN:Hid (TabN w.heap.size w1 t tA tB gs):=hn;clear hn))
  go_ret2
  exact⟨rfl,hb.trans (hb2.mono hb.size)⟩
theorem rdT_small {b:List UInt8}{t:Tb}{k:Nat}{g:Bool} (h:rdT b=some (t,k,g)):Small t:=by
 obtain⟨kd,l6,en,l7,bg,l8,big,s,l10,c,l12,st,l14,hh⟩:=hdr_ex b
 rw[hh.rdT] at h
 split at h
 ·simp at h
 ·rename_i hc
  simp only[Option.some.injEq,Prod.mk.injEq] at h
  obtain⟨rfl,_,_⟩:=h
  refine⟨?_,?_,fun r hr=>?_,?_⟩
  ·simp only[rdA_len];unfold maxLen;omega
  ·simp only[rdRs_len];unfold maxLen;omega
  ·have:=(rdRs_ok _ _ _ _ _ r hr).1;unfold maxLen;omega
  ·simp only[List.length_take];unfold maxLen;omega
theorem read_good (w:World) (b:List UInt8) (hb:b.length≤maxLen) (t:Tb) (k:Nat) (g:Bool) (h:rdT b=some (t,k,g)) (he:enc t k g=b) :
  Calls Tryz.prog 60 #[.string (ba b)] w fun e w'=>(∃ va vn,e=.returned (.tuple #[tv t va vn,.bool true])∧TabIn w' t va vn)∧Below w.heap.size w w':=by
 refine(read_t w b hb t k g h).mono ?_
 rintro e w' ⟨⟨_,h⟩|⟨hne,_⟩,hbl⟩
 ·exact⟨h,hbl⟩
 ·exact absurd he hne
theorem load_bad (w:World) (b:List UInt8) (hb:b.length≤maxLen) (hn:∀ t k g,rdT b=some (t,k,g)→enc t k g≠b) :
  Calls Tryz.prog 35 #[.string (ba b)] w fun e w'=>e=.returned (.tuple #[.pointer none,.int .i64 6])∧Below w.heap.size w w':=by
 have hr:=read_bad w b hb hn
 clear hn hb
 go_enter Tryz.func35,Tryz.ntmps35
 go_wp2_with (go_at_call 60;refine hr.mono ?_;rintro e w1 ⟨rfl,hb⟩)
 go_ret2
 exact⟨rfl,hb.alloc hb.size _⟩
theorem load_no (w:World) (b:List UInt8) (hb:b.length≤maxLen) (t:Tb) (k:Nat) (g:Bool) (h:rdT b=some (t,k,g)) (he:enc t k g=b) (hf:isTb t=false) :
  Calls Tryz.prog 35 #[.string (ba b)] w fun e w'=>e=.returned (.tuple #[.pointer none,.int .i64 6])∧Below w.heap.size w w':=by
 have hr:=read_good w b hb t k g h he
 have hs:=rdT_small h
 have HNW:Hid (∀ w va vn,TabIn w t va vn→Calls Tryz.prog 42 #[tv t va vn] w fun e w'=>e=.returned (.tuple #[.pointer none,.bool false])∧Below w.heap.size w w'):=fun w va vn h=>new_no w t va vn h hs hf
 clear h he hb hf hs
 go_enter Tryz.func35,Tryz.ntmps35
 go_wp2_with (first|(go_at_call 42;refine(HNW.out _ _ _ HT.out).mono ?_;rintro e w2 ⟨rfl,hb2⟩)|(go_at_call 60;refine hr.mono ?_;rintro e w1 ⟨⟨va,vn,rfl,ht⟩,hb1⟩;obtain⟨a,c,a2,n2,c2,e1,e2⟩:=ht.shapes;subst e1;subst e2;have HT:Hid (TabIn (w1.alloc (.cells #[.bool t.front,.bool t.back,.int .i64 t.start,.string (ba t.cls),.slice a t.acc.length c,.slice a2 n2 c2] 33)) t (.slice a t.acc.length c) (.slice a2 n2 c2)):=ht.below ((Below.refl _ _).alloc (Nat.le_refl _) _);clear ht))
 go_ret2
 exact⟨rfl,(hb1.alloc hb1.size _).trans (hb2.mono (by have:=hb1.size;simp;omega))⟩
theorem load_yes (w:World) (b:List UInt8) (hb:b.length≤maxLen) (t:Tb) (k:Nat) (g:Bool) (h:rdT b=some (t,k,g)) (he:enc t k g=b) (hf:isTb t=true) :
  Calls Tryz.prog 35 #[.string (ba b)] w fun e w'=>∃ m c,e=.returned (.tuple #[.pointer (some ⟨m,0,none⟩),.int .i64 0])∧Mch w' m t c∧w.heap.size≤m∧Below w.heap.size w w':=by
 obtain⟨c0,hok⟩:=tbOk_of hf
 have HOK:Hid (TbOk t c0):=hok
 have hr:=read_good w b hb t k g h he
 have hs:=rdT_small h
 have HNW:Hid (∀ w va vn,TabIn w t va vn→Calls Tryz.prog 42 #[tv t va vn] w fun e w'=>∃ g,e=.returned (.tuple #[.pointer (some ⟨g,0,none⟩),.bool true])∧w.heap.size≤g∧AuIn w' g t∧Below w.heap.size w w'):=fun w va vn h=>new_yes w t va vn h hs hf
 clear h he hb hf hs hok
 go_enter Tryz.func35,Tryz.ntmps35
 go_wp2_with (first|(go_at_call 42;refine(HNW.out _ _ _ HT.out).mono ?_;rintro e w2 ⟨g2,rfl,hg2,hau,hb2⟩;have HA:Hid (AuIn w2 g2 t):=hau;have HB2:Hid (Below w.heap.size w w2):=(hb1.alloc hb1.size _).trans (hb2.mono (by have:=hb1.size;simp;omega));clear hau hb2 hg2)|(go_at_call 60;refine hr.mono ?_;rintro e w1 ⟨⟨va,vn,rfl,ht⟩,hb1⟩;obtain⟨a,c,a2,n2,c2,e1,e2⟩:=ht.shapes;subst e1;subst e2;have HT:Hid (TabIn (w1.alloc (.cells #[.bool t.front,.bool t.back,.int .i64 t.start,.string (ba t.cls),.slice a t.acc.length c,.slice a2 n2 c2] 33)) t (.slice a t.acc.length c) (.slice a2 n2 c2)):=ht.below ((Below.refl _ _).alloc (Nat.le_refl _) _);clear ht))
 go_ret2
 exact⟨_,c0,rfl,Mch.new HA.out HOK.out,HB2.out.size,HB2.out.alloc HB2.out.size _⟩
theorem load_none (w:World) (b:List UInt8) (hb:b.length≤maxLen) (h:loadM isTb b=none) :
  Calls Tryz.prog 35 #[.string (ba b)] w fun e w'=>e=.returned (.tuple #[.pointer none,.int .i64 6])∧Below w.heap.size w w':=by
 cases hr:rdT b with
 |none=>exact load_bad w b hb (fun t k g e=>by rw[hr] at e;simp at e)
 |some x=>
  obtain⟨t,k,g⟩:=x
  by_cases he:enc t k g=b
  ·refine load_no w b hb t k g hr he ?_
   unfold loadM at h
   rw[hr] at h
   simp only at h
   rw[if_pos he] at h
   cases hi:isTb t with
   |false=>rfl
   |true=>rw[hi] at h;simp at h
  ·exact load_bad w b hb (fun t' k' g' e=>by rw[hr] at e;simp at e;obtain⟨rfl,rfl,rfl⟩:=e;exact he)
theorem load_some (w:World) (b:List UInt8) (hb:b.length≤maxLen) (t:Tb) (h:loadM isTb b=some t) :
  Calls Tryz.prog 35 #[.string (ba b)] w fun e w'=>∃ m c,e=.returned (.tuple #[.pointer (some ⟨m,0,none⟩),.int .i64 0])∧Mch w' m t c∧w.heap.size≤m∧Below w.heap.size w w':=by
 unfold loadM at h
 split at h
 ·simp at h
 ·rename_i t' k g hr
  split at h
  ·rename_i he
   split at h
   ·rename_i hp
    simp only[Option.some.injEq] at h
    subst h
    exact load_yes w b hb _ k g hr he hp
   ·simp at h
  ·simp at h
theorem sameTable_eq (w:World) (t:Tb) (va vn va' vn':Value) (h:TabIn w t va vn) (h':TabIn w t va' vn') (hs:Small t) :
  Calls Tryz.prog 26 #[tv t va vn,tv t va' vn'] w fun e w'=>e=.returned (.bool true)∧Below w.heap.size w w':=by
 obtain⟨f,b,st,cls,acc,next⟩:=t
 obtain⟨ha,⟨us,hul,hu,hr⟩⟩:=h
 obtain⟨ha',⟨us',hul',hu',hr'⟩⟩:=h'
 obtain⟨s1,s2,s3,s4⟩:=hs
 simp only at *
 obtain⟨a,ca,rfl⟩:=ha.form
 obtain⟨a',ca',rfl⟩:=ha'.form
 obtain⟨an,cn,rfl⟩:=hu.form
 obtain⟨an',cn',rfl⟩:=hu'.form
 rw[hul] at hu ⊢
 rw[hul'] at hu' ⊢
 obtain⟨n,hn⟩:∃ n,n=next.length:=⟨_,rfl⟩
 rw[←hn] at hu hu' hul hul' s2 ⊢
 obtain⟨m,hm⟩:∃ m,m=acc.length:=⟨_,rfl⟩
 rw[←hm] at s1 ⊢
 have HM:Hid (m=acc.length):=hm
 have HN:Hid (n=next.length∧us.length=n∧us'.length=n):=⟨hn,hul,hul'⟩
 obtain⟨w1,hw1⟩:∃ w1,w1=(w.alloc (.cells #[.bool f,.bool b,.int .i64 st,.string (ba cls),.slice a m ca,.slice an n cn] 33)).alloc (.cells #[.bool f,.bool b,.int .i64 st,.string (ba cls),.slice a' m ca',.slice an' n cn'] 33):=⟨_,rfl⟩
 have hB1:Below w.heap.size w w1:=by rw[hw1];exact((Below.refl _ _).alloc (Nat.le_refl _) _).alloc (by simp) _
 have hz1:w1.heap.size=w.heap.size+2:=by rw[hw1];simp
 have HX1:Hid (∀ w',Below w1.heap.size w1 w'→w'.heap[w.heap.size]?=some (.cells #[.bool f,.bool b,.int .i64 st,.string (ba cls),.slice a m ca,.slice an n cn] 33)):=fun w' hb=>by
  rw[hb.block _ (by omega),hw1]
  exact(Below.heap_alloc (w.alloc _) _ _ (by simp)).trans (heap_alloc_new w _)
 have HX2:Hid (∀ w',Below w1.heap.size w1 w'→w'.heap[w.heap.size+1]?=some (.cells #[.bool f,.bool b,.int .i64 st,.string (ba cls),.slice a' m ca',.slice an' n cn'] 33)):=fun w' hb=>by
  rw[hb.block _ (by omega),hw1]
  have:=heap_alloc_new (w.alloc (.cells #[.bool f,.bool b,.int .i64 st,.string (ba cls),.slice a m ca,.slice an n cn] 33)) (.cells #[.bool f,.bool b,.int .i64 st,.string (ba cls),.slice a' m ca',.slice an' n cn'] 33)
  rw[World.size_alloc] at this
  exact this
 have HW1:Hid (w1=(w.alloc (.cells #[.bool f,.bool b,.int .i64 st,.string (ba cls),.slice a m ca,.slice an n cn] 33)).alloc (.cells #[.bool f,.bool b,.int .i64 st,.string (ba cls),.slice a' m ca',.slice an' n cn'] 33)):=hw1
 have HST:Hid (∀ w',Below w1.heap.size w1 w'→Below w.heap.size w w'):=fun w' hb=>hB1.trans (hb.mono (by omega))
 have HU:Hid (RowE id w (.slice an n cn) us):=hu
 have HU':Hid (RowE id w (.slice an' n cn') us'):=hu'
 have HR:Hid (∀ j (h1:j<us.length) (h2:j<next.length),RowE eI w us[j] next[j]):=hr
 have HR':Hid (∀ j (h1:j<us'.length) (h2:j<next.length),RowE eI w us'[j] next[j]):=hr'
 have HS3:Hid (∀ r∈next,r.length≤maxLen):=s3
 unfold maxLen at s1 s2
 have HA:Hid (RowE eB w (.slice a m ca) acc):=by show RowE _ _ _ _;rw[hm];exact ha
 have HA':Hid (RowE eB w (.slice a' m ca') acc):=by show RowE _ _ _ _;rw[hm];exact ha'
 clear hw1 hB1 hu hu' hr hr' ha ha' hul hul' hn s3 hm
 have hbeq:(ba cls).toList=cls:=ByteArray.toList_mk cls
 go_enter Tryz.func26,Tryz.ntmps26
 go_wp2
 rw[←HW1.out]
 go_loopw [5] (fun i wr=>∃ k:Nat,i=.int .i64 k∧k≤m∧Below w1.heap.size w1 wr) (fun i _=>m-(intOf i).toNat)
 case atStart=>exact⟨0,rfl,Nat.zero_le _,Below.refl _ _⟩
 case round=>
  obtain⟨k,rfl,hk,hbl⟩:=hrel
  have HBL:Hid (Below w1.heap.size w1 wr):=hbl
  obtain⟨t0,t1,t2,t3,p4,t5⟩:=box6 (HX1.out wr hbl)
  obtain⟨t0',t1',t2',t3',q4,t5'⟩:=box6 (HX2.out wr hbl)
  clear t0 t1 t2 t3 t5 t0' t1' t2' t3' t5'
  by_cases hlt:k<m
  ·have hltI:(k:Int)<m:=by omega
   have hlt1:k<acc.length:=by have:=HM.out;omega
   have hbw:=HST.out wr hbl
   obtain⟨b1,o1,x1,hform,hcell⟩:=(HA.out.below hbw).nonnil (by omega)
   injection hform with e1 e2 e3
   subst e1
   obtain⟨b2,o2,x2,hform',hcell'⟩:=(HA'.out.below hbw).nonnil (by omega)
   injection hform' with e1' e2' e3'
   subst e1'
   have d1:=hcell k hlt1
   have d2:=hcell' k hlt1
   obtain⟨z,hz⟩:∃ z,z=acc[k]:=⟨_,rfl⟩
   rw[←hz] at d1 d2
   clear hcell hcell' e2 e3 e2' e3' hz hbl hbw
   cases z
   all_goals
    go_wp2
    go_quiet (fail)
    go_wp2
    go_roundw
    case rel=>exact⟨k+1,by go_num,by omega,belowQ HBL.out nq⟩
    case measure=>simp[intOf]<;>omega
  ·have hkI:¬(k:Int)<m:=by omega
   clear hbl
   go_wp2
   clear p4 q4 hkI hlt hk
   rename World=>wa
   have HBA:Hid (Below w1.heap.size w1 wa):=HBL.out
   clear HBL
   go_loopw [6,7] (fun i _ wr=>∃ k:Nat,i=.int .i64 k∧k≤n∧Below w1.heap.size w1 wr) (fun i _ _=>n-(intOf i).toNat)
   case atStart=>exact⟨0,rfl,Nat.zero_le _,HBA.out⟩
   case round=>
    obtain⟨k,rfl,hk,hbl⟩:=hrel
    have HBL:Hid (Below w1.heap.size w1 wr):=hbl
    obtain⟨t0,t1,t2,t3,t4,p5⟩:=box6 (HX1.out wr hbl)
    obtain⟨t0',t1',t2',t3',t4',q5⟩:=box6 (HX2.out wr hbl)
    clear t0 t1 t2 t3 t4 t0' t1' t2' t3' t4'
    by_cases hlt:k<n
    ·have hltI:(k:Int)<n:=by omega
     have hl1:k<us.length:=by have:=HN.out;omega
     have hl2:k<us'.length:=by have:=HN.out;omega
     have hl3:k<next.length:=by have:=HN.out;omega
     have hbw:=HST.out wr hbl
     obtain⟨b1,o1,x1,hform,hcell⟩:=(HU.out.below hbw).nonnil (by omega)
     injection hform with e1 e2 e3
     subst e1
     obtain⟨b2,o2,x2,hform',hcell'⟩:=(HU'.out.below hbw).nonnil (by omega)
     injection hform' with e1' e2' e3'
     subst e1'
     have d1:=hcell k hl1
     have d2:=hcell' k hl2
     have r1:=HR.out k hl1 hl3
     have r2:=HR'.out k hl2 hl3
     have hsm:=HS3.out next[k] (List.getElem_mem hl3)
     obtain⟨u1,hu1⟩:∃ u1,u1=us[k]:=⟨_,rfl⟩
     obtain⟨u2,hu2⟩:∃ u2,u2=us'[k]:=⟨_,rfl⟩
     obtain⟨r,hr⟩:∃ r,r=next[k]:=⟨_,rfl⟩
     rw[←hu1] at d1 r1
     rw[←hu2] at d2 r2
     rw[←hr] at r1 r2 hsm
     simp only[id] at d1 d2
     obtain⟨ra,rc,rfl⟩:=r1.form
     obtain⟨ra',rc',rfl⟩:=r2.form
     obtain⟨l,hl⟩:∃ l,l=r.length:=⟨_,rfl⟩
     rw[←hl] at d1 d2 r1 r2 hsm
     unfold maxLen at hsm
     have HL:Hid (l=r.length):=hl
     have HR1:Hid (RowE eI w (.slice ra l rc) r):=r1
     have HR2:Hid (RowE eI w (.slice ra' l rc') r):=r2
     have HD:Hid (∀ W,Below wr.heap.size wr W→W.cell? ⟨w.heap.size,5,none⟩=some (.slice (some ⟨b1,o1,none⟩) n cn)∧W.cell? ⟨w.heap.size+1,5,none⟩=some (.slice (some ⟨b2,o2,none⟩) n cn')∧W.cell? ⟨b1,o1+k,none⟩=some (.slice ra l rc)∧W.cell? ⟨b2,o2+k,none⟩=some (.slice ra' l rc')):=fun W hb=>⟨cell_below hb p5,cell_below hb q5,cell_below hb d1,cell_below hb d2⟩
     clear hcell hcell' e2 e3 e2' e3' hu1 hu2 hr hbl hbw r1 r2 hl hl1 hl2 hl3 hlt
     go_wp2
     go_quiet (fail)
     go_wp2
     clear p5 q5 d1 d2
     rename World=>wo
     have HBO:Hid (Below w1.heap.size w1 (wo.drewN nq)):=belowQ HBL.out nq
     have HD2:Hid (∀ W,Below wo.heap.size (wo.drewN nq) W→Below wo.heap.size wo W):=fun W hb=>(belowQ (Below.refl _ _) nq).trans hb
     have hzo:(wo.drewN nq).heap.size=wo.heap.size:=rfl
     have HZ1:Hid (w1.heap.size≤wo.heap.size):=HBL.out.size
     clear HBL
     go_loopw [7] (fun j wr=>∃ i:Nat,j=.int .i64 i∧i≤l∧Below wo.heap.size (wo.drewN nq) wr) (fun j _=>l-(intOf j).toNat)
     case atStart=>exact⟨0,rfl,Nat.zero_le _,Below.refl _ _⟩
     case round=>
      obtain⟨i,rfl,hi,hbi⟩:=hrel
      have HBI:Hid (Below wo.heap.size (wo.drewN nq) wr):=hbi
      have hbw:=HST.out wr (HBO.out.trans (hbi.mono HZ1.out))
      obtain⟨p5,q5,d1,d2⟩:=HD.out wr (HD2.out wr hbi)
      by_cases hlt:i<l
      ·have hltJ:(i:Int)<l:=by omega
       have hl1:i<r.length:=by have:=HL.out;omega
       obtain⟨b3,o3,x3,hform,hcell⟩:=(HR1.out.below hbw).nonnil (by omega)
       injection hform with e1 e2 e3
       subst e1
       obtain⟨b4,o4,x4,hform',hcell'⟩:=(HR2.out.below hbw).nonnil (by omega)
       injection hform' with e1' e2' e3'
       subst e1'
       have f1:=hcell i hl1
       have f2:=hcell' i hl1
       obtain⟨z,hz⟩:∃ z,z=r[i]:=⟨_,rfl⟩
       rw[←hz] at f1 f2
       clear hcell hcell' e2 e3 e2' e3' hz hbi hbw hl1
       go_wp2
       go_quiet (fail)
       go_wp2
       go_roundw
       case rel=>exact⟨i+1,by go_num,by omega,belowQ HBI.out _⟩
       case measure=>simp[intOf]<;>omega
      ·have hkJ:¬(i:Int)<l:=by omega
       clear hbi hbw
       go_wp2
       go_roundw
       case rel=>exact⟨k+1,by go_num,by omega,HBO.out.trans (HBI.out.mono HZ1.out)⟩
       case measure=>simp[intOf]<;>omega
    ·have hkI:¬(k:Int)<n:=by omega
     clear hbl
     go_wp2
     go_ret
     exact⟨rfl,HST.out _ HBL.out⟩
theorem xor_can {a b c:Nat} (h:a ^^^ c=b ^^^ c):a=b:=by
 have:=congrArg (· ^^^ c) h
 simpa [Nat.xor_assoc] using this
theorem pStep_lin (x y:Nat):pStep (x ^^^ y)=pStep x ^^^ pStep y:=by
 have h1:(x ^^^ y) / 2=x / 2 ^^^ y / 2:=by have:=Nat.xor_div_two_pow (a:=x) (b:=y) (n:=1);simpa using this
 have h2:(x ^^^ y)%2=(x%2) ^^^ (y%2):=by have:=Nat.xor_mod_two_pow (a:=x) (b:=y) (n:=1);simpa using this
 unfold pStep
 rw[h1,h2]
 generalize x / 2=u
 generalize y / 2=v
 rcases Nat.mod_two_eq_zero_or_one x with e|e<;>rcases Nat.mod_two_eq_zero_or_one y with f|f<;>rw[e,f]<;>simp
 ·rw[Nat.xor_assoc]
 ·rw[Nat.xor_assoc,Nat.xor_comm v,←Nat.xor_assoc]
 ·rw[Nat.xor_assoc u,←Nat.xor_assoc 3988292384,Nat.xor_comm 3988292384 v,Nat.xor_assoc v,Nat.xor_self,Nat.xor_zero]
theorem pN_lin (x y:Nat):∀ k,pN (x ^^^ y) k=pN x k ^^^ pN y k
 |0=>rfl
 |k+1=>by rw[pN,pN_lin x y k,pStep_lin];rfl
theorem pStep_zero {x:Nat} (hx:x<4294967296) (h:pStep x=0):x=0:=by
 unfold pStep at h
 have h3:x / 2=3988292384*(x%2):=by
  have:=congrArg (· ^^^ 3988292384*(x%2)) h
  simpa [Nat.xor_assoc] using this
 omega
theorem pN_zero {x:Nat} (hx:x<4294967296):∀ k,pN x k=0→x=0
 |0,h=>h
 |k+1,h=>pN_zero hx k (pStep_zero (pN_lt x hx k) h)
theorem pN_shift (y:Nat):∀ k,pN (y*2 ^ k) k=y
 |0=>by simp[pN]
 |k+1=>by
  have:=pN_shift (2*y) k
  rw[pN,show y*2 ^ (k+1)=2*y*2 ^ k by rw[Nat.pow_succ];ac_rfl,this]
  unfold pStep
  rw[show 2*y / 2=y by omega,show 2*y%2=0 by omega]
  simp
theorem xor_zero_eq {a b:Nat} (h:a ^^^ b=0):a=b:=by
 have:=congrArg (· ^^^ b) h
 simpa [Nat.xor_assoc] using this
theorem back8 {u v a b d:Nat} (hu:u<4294967296) (hv:v<4294967296) (ha:a<256) (hb:b<256) (hd:d<16777216) (h:pN (u ^^^ a) 8 ^^^ pN (v ^^^ b) 8=d):u ^^^ v=d*256 ^^^ (a ^^^ b):=by
 rw[←pN_lin] at h
 have h1:=pN_shift d 8
 have hz:pN ((u ^^^ a ^^^ (v ^^^ b)) ^^^ d*2 ^ 8) 8=0:=by rw[pN_lin,h,h1,Nat.xor_self]
 have hl:(u ^^^ a ^^^ (v ^^^ b)) ^^^ d*2 ^ 8<4294967296:=xor32 (xor32 (xor32 hu (by omega)) (xor32 hv (by omega))) (by omega)
 have h2:=xor_zero_eq (pN_zero hl 8 hz)
 rw[show d*256=d*2 ^ 8 by omega,←h2]
 rw[show u ^^^ a ^^^ (v ^^^ b)=(u ^^^ v) ^^^ (a ^^^ b) by
  rw[Nat.xor_assoc,←Nat.xor_assoc a v b,Nat.xor_comm a v,Nat.xor_assoc v a b,←Nat.xor_assoc u v],Nat.xor_assoc,Nat.xor_self,Nat.xor_zero]
def difN:List UInt8→List UInt8→Nat
 |a::q,b::r=>difN q r*256 ^^^ (a.toNat ^^^ b.toNat)
 |_,_=>0
theorem x256 {x d:Nat} (hd:d<256):x*256 ^^^ d=x*256+d:=by
 have:=Nat.two_pow_add_eq_or_of_lt (i:=8) (b:=d) (by omega) x
 rw[show 2 ^ 8*x=x*256 by omega] at this
 rw[this]
 refine Nat.eq_of_testBit_eq (fun i=>?_)
 rw[Nat.testBit_xor,Nat.testBit_or]
 by_cases h:i<8
 ·have:(x*256).testBit i=false:=by
   have h8:(256:Nat)=2 ^ 8:=by decide
   rw[h8,Nat.testBit_mul_two_pow,decide_eq_false (by omega),Bool.false_and]
  rw[this];simp
 ·have:d.testBit i=false:=Nat.testBit_lt_two_pow (Nat.lt_of_lt_of_le hd (show 2 ^ 8≤2 ^ i from Nat.pow_le_pow_right (by omega) (by omega)))
  rw[this];simp
theorem xor8 {a b:Nat} (ha:a<256) (hb:b<256):a ^^^ b<256:=Nat.xor_lt_two_pow (n:=8) ha hb
theorem difN_lt:∀(q r:List UInt8),difN q r<256 ^ q.length
 |[],_=>by simp[difN]
 |a::q,[]=>by simp only[difN];exact Nat.pow_pos (by omega)
 |a::q,b::r=>by
  have h1:=difN_lt q r
  have h2:=xor8 a.toNat_lt b.toNat_lt
  simp only[difN,List.length_cons,Nat.pow_succ]
  rw[x256 h2]
  have:difN q r*256+256≤256 ^ q.length*256:=by
   have:=Nat.mul_le_mul_right 256 (Nat.succ_le_of_lt h1)
   omega
  omega
theorem crcF_cons (c:Nat) (a:UInt8) (l:List UInt8):crcF c (a::l)=crcF (pN (c ^^^ a.toNat) 8) l:=by
 rw[pN_byte];rfl
theorem win4:∀(q r:List UInt8),q.length=r.length→q.length≤4→∀ u v,u<4294967296→v<4294967296→crcF u q=crcF v r→u ^^^ v=difN q r
 |[],[],_,_,u,v,_,_,h=>by
  have:u=v:=h
  rw[this,Nat.xor_self];rfl
 |[],b::r,hl,_,_,_,_,_,_=>by simp at hl
 |a::q,[],hl,_,_,_,_,_,_=>by simp at hl
 |a::q,b::r,hl,h4,u,v,hu,hv,h=>by
  rw[crcF_cons,crcF_cons] at h
  simp only[List.length_cons] at hl h4
  have ha:=a.toNat_lt
  have hb:=b.toNat_lt
  have h1:=win4 q r (by omega) (by omega) _ _ (pN_lt _ (xor32 hu (by omega)) 8) (pN_lt _ (xor32 hv (by omega)) 8) h
  have h2:=difN_lt q r
  have h3:256 ^ q.length≤256 ^ 3:=Nat.pow_le_pow_right (by omega) (by omega)
  exact back8 hu hv ha hb (by omega) h1
theorem difN_zero:∀(q r:List UInt8),q.length=r.length→difN q r=0→q=r
 |[],[],_,_=>rfl
 |[],b::r,hl,_=>by simp at hl
 |a::q,[],hl,_=>by simp at hl
 |a::q,b::r,hl,h=>by
  simp only[List.length_cons] at hl
  have h2:=xor8 a.toNat_lt b.toNat_lt
  simp only[difN] at h
  rw[x256 h2] at h
  rw[difN_zero q r (by omega) (by omega),UInt8.toNat_inj.1 (xor_zero_eq (show a.toNat ^^^ b.toNat=0 by omega))]
theorem crcF_inj:∀(s:List UInt8) (u v:Nat),u<4294967296→v<4294967296→crcF u s=crcF v s→u=v
 |[],_,_,_,_,h=>h
 |b::s,u,v,hu,hv,h=>by
  rw[crcF_cons,crcF_cons] at h
  have hb:=b.toNat_lt
  have h1:=crcF_inj s _ _ (pN_lt _ (xor32 hu (by omega)) 8) (pN_lt _ (xor32 hv (by omega)) 8) h
  have h2:pN ((u ^^^ b.toNat) ^^^ (v ^^^ b.toNat)) 8=0:=by rw[pN_lin,h1,Nat.xor_self]
  have h3:=xor_zero_eq (pN_zero (xor32 (xor32 hu (by omega)) (xor32 hv (by omega))) 8 h2)
  exact xor_can h3
theorem crcF_append (c:Nat) (l m:List UInt8):crcF c (l++m)=crcF (crcF c l) m:=by simp[crcF]
theorem crc_win {p q r s:List UInt8} (hl:q.length=r.length) (h4:q.length≤4) (h:crc (p++q++s)=crc (p++r++s)):q=r:=by
 have hp:=crcF_lt p 4294967295 (by omega)
 have h1:=crcF_lt (p++q++s) 4294967295 (by omega)
 have h2:=crcF_lt (p++r++s) 4294967295 (by omega)
 unfold crc at h
 have h3:crcF 4294967295 (p++q++s)=crcF 4294967295 (p++r++s):=by omega
 rw[crcF_append,crcF_append,crcF_append,crcF_append] at h3
 have h5:=crcF_inj s _ _ (crcF_lt _ _ hp) (crcF_lt _ _ hp) h3
 have h6:=win4 q r hl h4 _ _ hp hp h5
 rw[Nat.xor_self] at h6
 exact difN_zero q r hl h6.symm
theorem num4_inj {g:Bool}{a b:Nat} (ha:a<4294967296) (hb:b<4294967296) (h:num4 g a=num4 g b):a=b:=by
 have key:∀ x y:Nat,UInt8.ofNat x=UInt8.ofNat y→x%256=y%256:=fun x y e=>by
  have:=congrArg UInt8.toNat e
  simpa using this
 cases g<;>simp only[num4,if_true,Bool.false_eq_true,if_false,List.cons.injEq,and_true] at h<;>obtain⟨h1,h2,h3,h4⟩:=h<;>have k1:=key _ _ h1<;>have k2:=key _ _ h2<;>have k3:=key _ _ h3<;>have k4:=key _ _ h4<;>omega
theorem num4_len (g:Bool) (n:Nat):(num4 g n).length=4:=by cases g<;>rfl
theorem enc_len (t:Tb) (k:Nat) (g:Bool):(enc t k g).length=(body t k g).length+4:=by simp[enc,num4_len]
structure Tabular (P:Tb→Bool) (cc:List UInt8→Option Nat):Prop where
 f:∀ t,P t=true→∃ c,Fits t c∧1≤c∧cc t.cls=some c
theorem Tabular.fits {P:Tb→Bool}{cc:List UInt8→Option Nat} (h:Tabular P cc):∀ t,P t=true→∃ c,Fits t c:=fun t ht=>let ⟨c,hc,_⟩:=h.f t ht;⟨c,hc⟩
theorem body_inj {t t':Tb}{c c' k k':Nat}{g g':Bool} (h:Fits t c) (h':Fits t' c') (hk:k≤1) (hk':k'≤1) {l l':List UInt8} (e:body t k g++l=body t' k' g'++l'):t=t'∧k=k'∧g=g':=by
 have h1:=rfT_wr h hk g l
 have h2:=rfT_wr h' hk' g' l'
 rw[e,h2] at h1
 injection h1 with h1
 injection h1 with h3 h4
 injection h4 with h5 h6
 exact⟨h3.symm,h5.symm,h6.symm⟩
theorem enc_prefix {t t':Tb}{c c' k k':Nat}{g g':Bool} (h:Fits t c) (h':Fits t' c') (hk:k≤1) (hk':k'≤1) {z:List UInt8} (e:enc t k g++z=enc t' k' g'):z=[]:=by
 unfold enc at e
 rw[List.append_assoc] at e
 obtain⟨rfl,rfl,rfl⟩:=body_inj h h' hk hk' e
 have:=congrArg List.length e
 simp[num4_len] at this
 exact this
theorem load_cut {P:Tb→Bool}{cc:List UInt8→Option Nat} (hP:Tabular P cc) {t:Tb} (ht:P t=true) {k:Nat} (hk:k≤1) (g:Bool) {i:Nat} (hi:i<(enc t k g).length):loadM P ((enc t k g).take i)=none:=by
 cases h:loadM P ((enc t k g).take i) with
 |none=>rfl
 |some t'=>
  exfalso
  obtain⟨k',g',hk',ht',e⟩:=(loadM_some hP.fits).1 h
  obtain⟨c,hc⟩:=hP.fits t ht
  obtain⟨c',hc'⟩:=hP.fits t' ht'
  have:=enc_prefix hc' hc hk' hk (z:=(enc t k g).drop i) (by rw[e];exact List.take_append_drop i _)
  have h2:=congrArg List.length this
  simp at h2
  omega
theorem load_long {P:Tb→Bool}{cc:List UInt8→Option Nat} (hP:Tabular P cc) {t:Tb} (ht:P t=true) {k:Nat} (hk:k≤1) (g:Bool) (x:UInt8):loadM P (enc t k g++[x])=none:=by
 cases h:loadM P (enc t k g++[x]) with
 |none=>rfl
 |some t'=>
  exfalso
  obtain⟨k',g',hk',ht',e⟩:=(loadM_some hP.fits).1 h
  obtain⟨c,hc⟩:=hP.fits t ht
  obtain⟨c',hc'⟩:=hP.fits t' ht'
  have:=enc_prefix hc hc' hk hk' (z:=[x]) e.symm
  simp at this
theorem load_self {P:Tb→Bool}{cc:List UInt8→Option Nat} (hP:Tabular P cc) {t:Tb} (ht:P t=true) {k:Nat} (hk:k≤1) (g:Bool):loadM P (enc t k g)=some t:=(loadM_some hP.fits).2 ⟨k,g,hk,ht,rfl⟩
theorem load_sum {P:Tb→Bool}{cc:List UInt8→Option Nat} (hP:Tabular P cc) {t:Tb} (ht:P t=true) {k:Nat} (hk:k≤1) (g:Bool) {z:List UInt8}{t':Tb} (h:loadM P (body t k g++z)=some t'):body t k g++z=enc t k g:=by
 obtain⟨k',g',hk',ht',e⟩:=(loadM_some hP.fits).1 h
 obtain⟨c,hc⟩:=hP.fits t ht
 obtain⟨c',hc'⟩:=hP.fits t' ht'
 have e2:=e
 unfold enc at e2
 obtain⟨rfl,rfl,rfl⟩:=body_inj hc' hc hk' hk e2
 exact e.symm
theorem body_at {t:Tb}{c k:Nat}{g:Bool} (h:Fits t c):(body t k g).getD 7 0=wrA g∧(body t k g).getD 11 0=(pr g c).getD 1 0∧((body t k g).drop 14).take 256=t.cls∧14≤(body t k g).length:=by
 obtain⟨f,b,st,cls,acc,next⟩:=t
 obtain⟨a1,a2,n,hc,hcl,hst,hr⟩:=h
 simp only at *
 have hh:(next.headD []).length=c:=by
  cases next with
  |nil=>simp at n;omega
  |cons r t=>exact(hr r (by simp)).1
 obtain⟨p1,p2,hp⟩:∃ p1 p2,pr g acc.length=[p1,p2]:=by cases g<;>exact⟨_,_,rfl⟩
 obtain⟨q1,q2,hq⟩:∃ p1 p2,pr g c=[p1,p2]:=by cases g<;>exact⟨_,_,rfl⟩
 obtain⟨r1,r2,hr'⟩:∃ p1 p2,pr g st.toNat=[p1,p2]:=by cases g<;>exact⟨_,_,rfl⟩
 have e:body ⟨f,b,st,cls,acc,next⟩ k g=72::65::83::80::1::UInt8.ofNat k::UInt8.ofNat (bt f+2*bt b)::wrA g::p1::p2::q1::q2::r1::r2::(cls++(acc.map wrA++(next.flatMap (wrRow k g)))):=by
  simp only[body,hd,hh,hp,hq,hr',mk5,List.append_assoc,List.cons_append,List.nil_append]
 rw[e,hq]
 refine⟨rfl,rfl,?_,by simp⟩
 show(cls++_).take 256=cls
 rw[←hcl];simp
theorem pr_turn {c:Nat} (h1:1≤c) (h2:c≤256) {g g':Bool} (hg:g≠g'):(pr g c).getD 1 0≠(pr g' c).getD 1 0:=by
 intro e
 have key:UInt8.ofNat c=UInt8.ofNat (c / 256):=by
  cases g<;>cases g'
  ·exact absurd rfl hg
  ·exact e.symm
  ·exact e
  ·exact absurd rfl hg
 rcases Nat.lt_or_ge c 256 with h|h
 ·rw[Nat.div_eq_of_lt h] at key
  have:=congrArg UInt8.toNat key
  simp only[UInt8.toNat_ofNat',Nat.zero_mod] at this
  omega
 ·have:c=256:=by omega
  subst this
  exact absurd key (by decide)
theorem wrA_inj {g g':Bool} (h:wrA g=wrA g'):g=g':=by
 cases g<;>cases g'
 ·rfl
 ·exact absurd h (by decide)
 ·exact absurd h (by decide)
 ·rfl
theorem getD_mid {α:Type}{p q r s:List α} (hl:q.length=r.length) {i:Nat} (hi:i<p.length∨p.length+q.length≤i) (d:α):(p++q++s).getD i d=(p++r++s).getD i d:=by
 simp only[List.getD_eq_getElem?_getD]
 rcases hi with hi|hi
 ·rw[List.append_assoc,List.append_assoc,List.getElem?_append_left hi,List.getElem?_append_left hi]
 ·rw[List.getElem?_append_right (by simp;omega),List.getElem?_append_right (by simp;omega)]
  simp[hl]
theorem load_win {P:Tb→Bool}{cc:List UInt8→Option Nat} (hP:Tabular P cc) {t:Tb} (ht:P t=true) {k:Nat} (hk:k≤1) (g:Bool) {p q r s:List UInt8} (hb:body t k g=p++q++s) (hl:q.length=r.length) (h4:q.length≤4) {t':Tb} (h:loadM P (p++r++s++num4 g (crc (body t k g)))=some t'):q=r:=by
 obtain⟨k',g',hk',ht',e⟩:=(loadM_some hP.fits).1 h
 obtain⟨c,hc,hc1,hcc⟩:=hP.f t ht
 obtain⟨c',hc',-,hcc'⟩:=hP.f t' ht'
 unfold enc at e
 have hlen:=congrArg List.length e
 simp only[List.length_append,num4_len] at hlen
 obtain⟨e1,e2⟩:=List.append_inj e (by simp;omega)
 obtain⟨b1,b2,b3,b4⟩:=body_at (k:=k) (g:=g) hc
 obtain⟨d1,d2,d3,d4⟩:=body_at (k:=k') (g:=g') hc'
 by_cases hg:g'=g
 ·subst hg
  have h5:=num4_inj (crc_lt _) (crc_lt _) e2
  rw[e1,hb] at h5
  exact(crc_win hl h4 h5.symm)
 ·exfalso
  have hne:¬(7<p.length∨p.length+q.length≤7):=fun hi=>by
   have:=getD_mid (s:=s) hl hi (0:UInt8)
   rw[←hb,←e1,b1,d1] at this
   exact hg (wrA_inj this).symm
  have h11:=getD_mid (s:=s) hl (i:=11) (p:=p) (.inr (by omega)) (0:UInt8)
  rw[←hb,←e1,b2,d2] at h11
  have hcl:t'.cls=t.cls:=by
   rw[←b3,←d3,e1,hb]
   have hx:∀ x:List UInt8,x.length=q.length→(p++x++s).drop 14=s.drop (14-(p.length+q.length)):=fun x hx=>by
    rw[List.drop_append,List.drop_of_length_le (by simp;omega)]
    simp[hx]
   rw[hx q rfl,hx r hl.symm]
  rw[hcl,hcc] at hcc'
  injection hcc' with hcc'
  subst hcc'
  exact pr_turn hc1 hc.cc (fun e=>hg e.symm) h11
def trn (V:Nat→UInt8) (k j:Nat) (E:List UInt8):List UInt8:=E.mapIdx fun i c=>if k≤i∧i<k+j then c ^^^ V (i-k) else c
theorem trn_len (V:Nat→UInt8) (k j:Nat) (E:List UInt8):(trn V k j E).length=E.length:=by simp[trn]
theorem trn_at {V:Nat→UInt8}{k j:Nat}{E:List UInt8}{i:Nat} (h:i<E.length):(trn V k j E)[i]'(by rw[trn_len];exact h)=if k≤i∧i<k+j then E[i] ^^^ V (i-k) else E[i]:=by simp[trn]
theorem trn_same {V:Nat→UInt8}{k j:Nat}{E:List UInt8} (h:∀ i,i<j→V i=0):trn V k j E=E:=by
 refine List.ext_getElem (trn_len _ _ _ _) (fun i h1 h2=>?_)
 rw[trn_at h2]
 split
 ·rename_i q;rw[h _ (by omega)];simp
 ·rfl
theorem u8_xor_ne {a b:UInt8} (h:a ^^^ b=a):b=0:=by
 have:=congrArg (a ^^^ ·) h
 simpa [←UInt8.xor_assoc] using this
theorem load_trn {P:Tb→Bool}{cc:List UInt8→Option Nat} (hP:Tabular P cc) {t:Tb} (ht:P t=true) {kind:Nat} (hk:kind≤1) (g:Bool) {V:Nat→UInt8}{k j:Nat} (hj4:j≤4) (hkj:k+j≤(enc t kind g).length) (hs:k<(enc t kind g).length-4→k+j≤(enc t kind g).length-4) (hv:∃ i,i<j∧V i≠0):loadM P (trn V k j (enc t kind g))=none:=by
 obtain⟨i0,hi0,hv0⟩:=hv
 have hlen:=enc_len t kind g
 cases h:loadM P (trn V k j (enc t kind g)) with
 |none=>rfl
 |some t'=>
  exfalso
  obtain⟨E,hE⟩:∃ E,E=enc t kind g:=⟨_,rfl⟩
  have hne:trn V k j E≠E:=fun e=>by
   have hi:k+i0<E.length:=by rw[hE];omega
   have h1:=trn_at (V:=V) (k:=k) (j:=j) hi
   have h2:(trn V k j E)[k+i0]'(by rw[trn_len];exact hi)=E[k+i0]:=by simp only[e]
   rw[h2,if_pos ⟨by omega,by omega⟩,show k+i0-k=i0 by omega] at h1
   exact hv0 (u8_xor_ne h1.symm)
  rw[←hE] at h
  by_cases hks:k<(enc t kind g).length-4
  ·have h4:=hs hks
   have hb:E=body t kind g++num4 g (crc (body t kind g)):=by rw[hE];rfl
   have e1:E=(body t kind g).take k++((body t kind g).drop k).take j++(body t kind g).drop (k+j)++num4 g (crc (body t kind g)):=by
    rw[hb];congr 1
    rw[List.append_assoc,show(body t kind g).drop (k+j)=((body t kind g).drop k).drop j by rw[List.drop_drop],List.take_append_drop,List.take_append_drop]
   have e2:trn V k j E=(body t kind g).take k++((trn V k j E).drop k).take j++(body t kind g).drop (k+j)++num4 g (crc (body t kind g)):=by
    have hl:(trn V k j E).length=E.length:=trn_len _ _ _ _
    have hx:∀ l m n:List UInt8,∀ i (h1:i<l.length),(l++m++n)[i]'(by simp;omega)=l[i]:=fun l m n i h1=>by
     rw[List.getElem_append_left (by simp;omega),List.getElem_append_left h1]
    refine List.ext_getElem ?_ (fun i h1 h2=>?_)
    ·have hEl:=congrArg List.length hE
     simp only[List.length_append,List.length_take,List.length_drop,num4_len,hl]
     omega
    ·have hi:i<E.length:=by rw[←hl];exact h1
     have hbl:(body t kind g).length=(enc t kind g).length-4:=by omega
     rcases Nat.lt_or_ge i k with q|q
     ·rw[trn_at hi,if_neg (by omega)]
      have:i<((body t kind g).take k).length:=by simp;omega
      rw[List.getElem_append_left (by simp;omega),List.getElem_append_left (by simp;omega),List.getElem_append_left this]
      simp only[List.getElem_take]
      simp only[hb]
      rw[List.getElem_append_left (by omega)]
     ·rcases Nat.lt_or_ge i (k+j) with q2|q2
      ·rw[List.getElem_append_left (by simp[hl];omega),List.getElem_append_left (by simp[hl];omega),List.getElem_append_right (by simp;omega)]
       simp only[List.getElem_take,List.getElem_drop,List.length_take]
       congr 1;omega
      ·rw[trn_at hi,if_neg (by omega)]
       have hmin:min k (body t kind g).length=k:=by omega
       have hmin2:min j ((trn V k j E).length-k)=j:=by rw[hl];omega
       rcases Nat.lt_or_ge i (body t kind g).length with q3|q3
       ·rw[List.getElem_append_left (by simp[hl];omega),List.getElem_append_right (by simp[hl];omega)]
        simp only[List.getElem_drop,List.length_append,List.length_take,List.length_drop,hmin,hmin2]
        simp only[hb]
        rw[List.getElem_append_left q3]
        congr 1;omega
       ·rw[List.getElem_append_right (by simp[hl];omega)]
        simp only[List.length_append,List.length_take,List.length_drop,hmin,hmin2]
        simp only[hb]
        rw[List.getElem_append_right q3]
        congr 1;omega
   rw[e2] at h
   have hl:(trn V k j E).length=E.length:=trn_len _ _ _ _
   have hq:=load_win hP ht hk g (p:=(body t kind g).take k) (q:=((body t kind g).drop k).take j) (r:=((trn V k j E).drop k).take j) (s:=(body t kind g).drop (k+j)) (by
    rw[List.append_assoc,show(body t kind g).drop (k+j)=((body t kind g).drop k).drop j by rw[List.drop_drop],List.take_append_drop,List.take_append_drop]) (by have hEl:=congrArg List.length hE;simp only[List.length_take,List.length_drop,hl];omega) (by simp only[List.length_take];omega) h
   exact hne (by rw[e2,←hq];exact e1.symm)
  ·have hb:trn V k j E=body t kind g++(trn V k j E).drop (body t kind g).length:=by
    conv=>lhs;rw[←List.take_append_drop (body t kind g).length (trn V k j E)]
    congr 1
    refine List.ext_getElem (by simp[trn_len,hE];omega) (fun i h1 h2=>?_)
    have hi:i<E.length:=by rw[hE];omega
    rw[List.getElem_take,trn_at hi,if_neg (by omega)]
    have hb:E=body t kind g++num4 g (crc (body t kind g)):=by rw[hE];rfl
    simp only[hb]
    rw[List.getElem_append_left h2]
   rw[hb] at h
   have:=load_sum hP ht hk g h
   rw[←hb,←hE] at this
   exact hne this
theorem flat_le {α β:Type}{f:α→List β}{c:Nat}:∀ {l:List α},(∀ x∈l,(f x).length≤c)→(l.flatMap f).length≤c*l.length
 |[],_=>by simp
 |x::l,h=>by
  have h1:=flat_le (l:=l) (fun y hy=>h y (by simp[hy]))
  have h2:=h x (by simp)
  rw[List.flatMap_cons,List.length_append,List.length_cons,Nat.mul_succ]
  omega
theorem pr_len2 (g:Bool) (n:Nat):(pr g n).length=2:=by cases g<;>rfl
theorem wrRow_le4 (kind:Nat) (g:Bool) (row:List Int):(wrRow kind g row).length≤2+4*row.length:=by
 unfold wrRow
 split
 ·have h1:=runs_len row
  have h2:=flat_le (f:=wrR g) (c:=4) (l:=runs row) (fun x _=>by simp[wrR,pr_len2])
  rw[List.length_append,pr_len2]
  omega
 ·have h2:=flat_le (f:=fun z:Int=>pr g z.toNat) (c:=2) (l:=row) (fun x _=>by rw[pr_len2];omega)
  omega
theorem enc_size {t:Tb}{c kind:Nat} (g:Bool) (h:Fits t c):274≤(enc t kind g).length∧(enc t kind g).length≤300000:=by
 rw[enc_len]
 have h1:=flat_le (f:=wrRow kind g) (c:=1026) (l:=t.next) (fun r hr=>by
  have h2:=wrRow_le4 kind g r
  have h3:=(h.r r hr).1
  have h4:=h.cc
  omega)
 have h5:=h.n
 have h6:=h.a2
 have h7:=h.cls
 simp only[body,hd,mk5,List.length_append,List.length_cons,List.length_nil,pr_len2,List.length_map]
 omega
abbrev svV (p:Nat) (f b:Bool):Value:=.agg #[.pointer (some ⟨p,0,none⟩),.bool f,.bool b]
theorem set3_blk (w:World) (q:Nat) (a0 a1 a2:Value) {k:Nat} (h:k≠q):(((w.setCell ⟨q,0,none⟩ a0).setCell ⟨q,1,none⟩ a1).setCell ⟨q,2,none⟩ a2).heap[k]?=w.heap[k]?:=by
 rw[set_blk _ _ _ _ h,set_blk _ _ _ _ h,set_blk _ _ _ _ h]
theorem sought_any (w:World) (v:Value) (l:List Int) (ends:Int) (h:Raw w.heap.size w v l) (h1:-9223372036854775808≤ends) (h2:ends≤9223372036854775807) :
  Calls Tryz.prog 30 #[v,.int .i64 ends] w fun e w'=>∃ p f b t,e=.returned (svV p f b)∧HTAt w.heap.size w' p t∧HTOk 4 t∧Below w.heap.size w w':=by
 obtain⟨k,hk,hp⟩:=pk4 h1 h2
 have HP:Hid _:=hp
 have HG:Hid (∀ x,Calls Tryz.prog 27 #[v,.int .i64 4] (w.alloc x) fun e w'=>GrRes w.heap.size (w.alloc x) w' 4 e):=fun x=>grown_any 4 (by omega) _ _ _ _ (by simp) (h.below ((Below.refl _ _).alloc (Nat.le_refl _) _))
 clear hp h
 go_enter Tryz.func30,Tryz.ntmps30
 go_upto_region 2 with(go_at_call 27;refine(HG.out _).mono ?_;rintro e w3 ⟨p,v3,t,l3,rfl,ht,ho,hr,hb⟩;have HT:Hid _:=ht;have HO:Hid _:=ho;have HB:Hid _:=hb;clear ht ho hr hb)
 have hq:w3.heap[w.heap.size]?=some (.cells #[.pointer none,.bool false,.bool false] 62):=(HB.out.block _ (by simp)).trans (heap_alloc_new w _)
 obtain⟨q0,q1,q2⟩:=box3 hq
 have f0:∀ o,w3.frozen? ⟨w.heap.size,o,none⟩=false:=fun o=>by simp[World.frozen?,hq]
 have fa:=f0 0
 have fb:=f0 1
 have fc:=f0 2
 have HQ:Hid _:=hq
 clear hq f0
 rcases hk with rfl|rfl|rfl|rfl
 ·go_wp2_with (go_at_call 21;refine(HP.out _).mono ?_;rintro e w5 ⟨rfl,hw5⟩;obtain rfl:=hw5.symm)
  exact bodyPost_ret (v:=svV p false false) (by simp[results,Tryz.results30,go_sem,q0,q1,q2,fa,fb,fc]) rfl ⟨p,false,false,t,rfl,(HT.out.keep (fun c h1 h2=>set3_blk _ _ _ _ _ (by simp at h1;omega))).mono (by simp),HO.out,(((((Below.refl _ _).alloc (Nat.le_refl _) _).trans (HB.out.mono (by simp))).setCell (Nat.le_refl _) _).setCell (Nat.le_refl _) _).setCell (Nat.le_refl _) _⟩
 ·go_wp2_with (go_at_call 21;refine(HP.out _).mono ?_;rintro e w5 ⟨rfl,hw5⟩;obtain rfl:=hw5.symm)
  exact bodyPost_ret (v:=svV p true false) (by simp[results,Tryz.results30,go_sem,q0,q1,q2,fa,fb,fc]) rfl ⟨p,true,false,t,rfl,(HT.out.keep (fun c h1 h2=>set3_blk _ _ _ _ _ (by simp at h1;omega))).mono (by simp),HO.out,(((((Below.refl _ _).alloc (Nat.le_refl _) _).trans (HB.out.mono (by simp))).setCell (Nat.le_refl _) _).setCell (Nat.le_refl _) _).setCell (Nat.le_refl _) _⟩
 ·go_wp2_with (go_at_call 21;refine(HP.out _).mono ?_;rintro e w5 ⟨rfl,hw5⟩;obtain rfl:=hw5.symm)
  exact bodyPost_ret (v:=svV p false true) (by simp[results,Tryz.results30,go_sem,q0,q1,q2,fa,fb,fc]) rfl ⟨p,false,true,t,rfl,(HT.out.keep (fun c h1 h2=>set3_blk _ _ _ _ _ (by simp at h1;omega))).mono (by simp),HO.out,(((((Below.refl _ _).alloc (Nat.le_refl _) _).trans (HB.out.mono (by simp))).setCell (Nat.le_refl _) _).setCell (Nat.le_refl _) _).setCell (Nat.le_refl _) _⟩
 ·go_wp2_with (go_at_call 21;refine(HP.out _).mono ?_;rintro e w5 ⟨rfl,hw5⟩;obtain rfl:=hw5.symm)
  exact bodyPost_ret (v:=svV p true true) (by simp[results,Tryz.results30,go_sem,q0,q1,q2,fa,fb,fc]) rfl ⟨p,true,true,t,rfl,(HT.out.keep (fun c h1 h2=>set3_blk _ _ _ _ _ (by simp at h1;omega))).mono (by simp),HO.out,(((((Below.refl _ _).alloc (Nat.le_refl _) _).trans (HB.out.mono (by simp))).setCell (Nat.le_refl _) _).setCell (Nat.le_refl _) _).setCell (Nat.le_refl _) _⟩
theorem stext_one (w:World) (p k l m:Nat) (px py:Option Addr) (f b:Bool) (X:ByteArray) (h:w.heap[p]?=some (trB k l m px py)) (hk:k≠3) (hx:TxC w p X) (sX:X.size≤200) :
  Calls Tryz.prog 31 #[svV p f b] w fun e w'=>e=.returned (.string (ba (begP f)++X++ba (endP b)))∧Below w.heap.size w w':=by
 have HP:Hid (∀ w',Below w.heap.size w w'→w'.heap[p]?=some (trB k l m px py)):=fun w' hb=>by rw[hb.block p (some_lt h)];exact h
 have hk3:((k:Int)==3)=false:=by simp;omega
 have a1:¬ 9223372036854775807<1+X.size:=by omega
 have a2:¬ 9223372036854775807<1+X.size+1:=by omega
 have a3:¬ 9223372036854775807<X.size+1:=by omega
 obtain⟨w1,hw1⟩:∃ w1,w1=w.alloc (.cells #[.pointer (some ⟨p,0,none⟩),.bool f,.bool b] 62):=⟨_,rfl⟩
 have HW1:Hid _:=hw1
 have HB1:Hid (Below w.heap.size w w1):=by rw[hw1];exact(Below.refl _ _).alloc (Nat.le_refl _) _
 have HX1:Hid (∀ w',Below w1.heap.size w1 w'→w'.heap[w.heap.size]?=some (.cells #[.pointer (some ⟨p,0,none⟩),.bool f,.bool b] 62)):=fun w' hb=>by rw[hb.block _ (by rw[hw1];simp),hw1];exact heap_alloc_new w _
 have hs1:=HX1.out w1 (Below.refl _ _)
 obtain⟨s0,s1,s2⟩:=box3 hs1
 clear hw1 hs1 h
 go_enter Tryz.func31,Tryz.ntmps31
 go_upto_region 1 with(fail)
 rw[←HW1.out]
 cases f<;>cases b
 all_goals
  go_wp2_with (go_at_call 28;refine(hx _ HB1.out).mono ?_;rintro e w3 ⟨rfl,l3⟩;have HB3:Hid (Below w.heap.size w w3):=HB1.out.trans (l3.mono HB1.out.size);obtain⟨y0,y1,y2,y3,y4⟩:=box5 (HP.out w3 HB3.out);obtain⟨z0,z1,z2⟩:=box3 (HX1.out w3 l3);clear l3)
  go_ret
  refine⟨?_,HB3.out⟩
  simp[begP,endP]
  try (apply ByteArray.ext;simp[ByteArray.data_append])
theorem stext_cat (w:World) (p l m px py:Nat) (f b:Bool) (X Y:ByteArray) (h:w.heap[p]?=some (trB 3 l m (some ⟨px,0,none⟩) (some ⟨py,0,none⟩))) (ht:TxC w p (X++Y)) (hx:TxC w px X) (hy:TxC w py Y) (sX:X.size≤200) (sY:Y.size≤200) :
  Calls Tryz.prog 31 #[svV p f b] w fun e w'=>e=.returned (.string (ba (begP f)++(X++Y)++ba (endP b)))∧Below w.heap.size w w':=by
 have HP:Hid (∀ w',Below w.heap.size w w'→w'.heap[p]?=some (trB 3 l m (some ⟨px,0,none⟩) (some ⟨py,0,none⟩))):=fun w' hb=>by rw[hb.block p (some_lt h)];exact h
 have a0:¬ 9223372036854775807<X.size+Y.size:=by omega
 have hsz:(X++Y).size=X.size+Y.size:=ByteArray.size_append
 obtain⟨Z,hZ⟩:∃ Z,Z=X++Y:=⟨_,rfl⟩
 have HZ:Hid (X++Y=Z):=hZ.symm
 rw[←hZ] at hsz ht ⊢
 have a1:¬ 9223372036854775807<1+Z.size:=by omega
 have a2:¬ 9223372036854775807<1+Z.size+1:=by omega
 have a3:¬ 9223372036854775807<Z.size+1:=by omega
 clear hZ hsz
 obtain⟨w1,hw1⟩:∃ w1,w1=w.alloc (.cells #[.pointer (some ⟨p,0,none⟩),.bool f,.bool b] 62):=⟨_,rfl⟩
 have HW1:Hid _:=hw1
 have HB1:Hid (Below w.heap.size w w1):=by rw[hw1];exact(Below.refl _ _).alloc (Nat.le_refl _) _
 have HX1:Hid (∀ w',Below w1.heap.size w1 w'→w'.heap[w.heap.size]?=some (.cells #[.pointer (some ⟨p,0,none⟩),.bool f,.bool b] 62)):=fun w' hb=>by rw[hb.block _ (by rw[hw1];simp),hw1];exact heap_alloc_new w _
 have hs1:=HX1.out w1 (Below.refl _ _)
 obtain⟨s0,s1,s2⟩:=box3 hs1
 clear hw1 hs1 h
 go_enter Tryz.func31,Tryz.ntmps31
 go_upto_region 1 with(fail)
 rw[←HW1.out]
 go_upto_region 3 with(go_at_call 28;refine(ht _ HB1.out).mono ?_;rintro e w3 ⟨rfl,l3⟩;have HB3:Hid (Below w.heap.size w w3):=HB1.out.trans (l3.mono HB1.out.size);have HL3:Hid (Below w1.heap.size w1 w3):=l3;obtain⟨y0,y1,y2,y3,y4⟩:=box5 (HP.out w3 HB3.out);obtain⟨z0,z1,z2⟩:=box3 (HX1.out w3 l3);clear l3)
 go_cut [3] from 13 to 25 (fun u3 wc=>u3=.string Z∧Below w1.heap.size w1 wc)
 case first=>
  go_region_held3 (fun w'=>w'.cell? ⟨p,3,none⟩=some (.pointer (some ⟨px,0,none⟩))∧w'.cell? ⟨p,4,none⟩=some (.pointer (some ⟨py,0,none⟩))∧w'.cell? ⟨w.heap.size,0,none⟩=some (.pointer (some ⟨p,0,none⟩))) (go_keep)
   (first|(have:=hmark;go_at_call 28;refine(hy _ HB4.out).mono ?_;rintro e w5 ⟨rfl,l5⟩;have HL5:Hid (Below w1.heap.size w1 w5):=HL4.out.trans (l5.mono HL4.out.size);have HB5:Hid (Below w.heap.size w w5):=HB1.out.trans (HL5.out.mono HB1.out.size);obtain⟨-,-,-,v3,v4⟩:=box5 (HP.out w5 HB5.out);obtain⟨v0,-,-⟩:=box3 (HX1.out w5 HL5.out))|(go_at_call 28;refine(hx _ HB3.out.drew).mono ?_;rintro e w4 ⟨rfl,l4⟩;have hmark:True:=trivial;have HL4:Hid (Below w1.heap.size w1 w4):=HL3.out.drew.trans (l4.mono HL3.out.size);have HB4:Hid (Below w.heap.size w w4):=HB1.out.trans (HL4.out.mono HB1.out.size);obtain⟨-,-,-,x3,x4⟩:=box5 (HP.out w4 HB4.out);obtain⟨x0,-,-⟩:=box3 (HX1.out w4 HL4.out);clear l4))
  all_goals
   go_wp2
   go_meet
   exact⟨by rw[HZ.out],HL5.out⟩
 case rest=>
 obtain⟨rfl,hlc⟩:=hcut
 obtain⟨r0,r1,r2⟩:=box3 (HX1.out wc hlc)
 have HBC:Hid (Below w.heap.size w wc):=HB1.out.trans (hlc.mono HB1.out.size)
 clear hlc
 cases f<;>cases b
 all_goals
  go_wp2
  go_ret
  refine⟨?_,HBC.out⟩
  simp[begP,endP]
  try (apply ByteArray.ext;simp[ByteArray.data_append])
theorem stext_any {t:HT} (hok:HTOk 4 t) {lo p:Nat}{w:World} (h:HTAt lo w p t) (f b:Bool) :
  Calls Tryz.prog 31 #[svV p f b] w fun e w'=>e=.returned (.string (ba (begP f++(tx (kt t)++endP b))))∧Below w.heap.size w w':=by
 have hlen:(tx (kt t)).length≤109:=(tx_len hok).1
 have hT:TxC w p (ba (tx (kt t))):=fun w' hw'=>text_any hok (by omega) (h.below hw')
 have hsz:(ba (tx (kt t))).size≤200:=by rw[ba_size];omega
 rw[show begP f++(tx (kt t)++endP b)=begP f++tx (kt t)++endP b by simp,←ba_cat,←ba_cat]
 match t,hok,h,hT,hsz,hlen with
 |.lf k l m,hok,h,hT,hsz,_=>
  simp only[HTAt] at h
  simp only[HTOk] at hok
  exact stext_one w p k l m none none f b _ h.2 (by omega) hT hsz
 |.un k l m x,hok,h,hT,hsz,_=>
  simp only[HTAt] at h
  simp only[HTOk] at hok
  obtain⟨-,px,hb,hx⟩:=h
  exact stext_one w p k l m _ none f b _ hb (by omega) hT hsz
 |.bi k l m x y,hok,h,hT,hsz,hlen=>
  simp only[HTAt] at h
  simp only[HTOk] at hok
  obtain⟨-,px,py,hb,hx,hy⟩:=h
  rcases hok.1 with rfl|rfl
  ·simp only[kt,if_true,tx,List.length_append] at hlen hT ⊢
   rw[←ba_cat] at hT ⊢
   exact stext_cat w p l m px py f b _ _ hb hT (fun w' hw'=>text_any hok.2.2.2.1 (by omega) (hx.below hw')) (fun w' hw'=>text_any hok.2.2.2.2 (by omega) (hy.below hw')) (by rw[ba_size];omega) (by rw[ba_size];omega)
  ·exact stext_one w p 4 l m _ _ f b _ hb (by omega) hT hsz
theorem tabular_is:Tabular isTb (fun l=>cntR (ba l)):=⟨fun t ht=>by
 obtain⟨c,h⟩:=tbOk_of ht
 refine⟨c,h.fits,?_,h.cc⟩
 have hc:=h.c256
 have:=h.cls 0
 omega⟩
theorem Raw.grow {B B':Nat}{w:World}{v:Value}{l:List Int} (h:Raw B w v l) (hB:B≤B'):Raw B' w v l:=⟨h.r,h.c,h.b,h.n,fun b o n c e=>(h.o b o n c e).imp id (fun q=>Nat.lt_of_lt_of_le q hB)⟩
abbrev ptx (t:HT) (f b:Bool):List UInt8:=begP f++(tx (kt t)++endP b)
theorem ptx_len {t:HT} (h:HTOk 4 t) (f b:Bool):(ptx t f b).length≤111:=by
 have:=(tx_len h).1
 have h1:(begP f).length≤1:=by cases f<;>simp[begP]
 have h2:(endP b).length≤1:=by cases b<;>simp[endP]
 simp[szK] at this
 simp;omega
theorem ptx_comp {t:HT} (h:HTOk 4 t) (f b:Bool):(compM (ptx t f b) 200=.inl (4,0)∧searchM ⟨f,b,[toC (kt t)]⟩ 200=none)∨∃ T n k,compM (ptx t f b) 200=.inr (tbOf (leastM T))∧TnFull n k T∧n≤200∧k≤256∧T.front=f∧T.back=b∧∀ u,ac T (rnT T 0 u)=true↔endsAt f (LCs [toC (kt t)]) u:=by
 refine compM_ptn (readP_one (kt_ok h) f b) ?_ ?_
 ·have:=ptx_len h f b;omega
 ·have:=(tx_len h).2
  simp only[Sx.nestCs,nestC_toC]
  omega
theorem sought_at {w W:World}{v:Value}{l:List Int}{ends:Int} (h:Raw w.heap.size w v l) (hW:Below w.heap.size w W) (h1:-9223372036854775808≤ends) (h2:ends≤9223372036854775807):Calls Tryz.prog 30 #[v,.int .i64 ends] W fun e w'=>∃ p f b t,e=.returned (svV p f b)∧HTAt W.heap.size w' p t∧HTOk 4 t∧Below W.heap.size W w':=sought_any W v l ends ((h.below hW).grow hW.size) h1 h2
abbrev mkV (a b c d:Int):Value:=.agg #[.int .i64 a,.int .i64 b,.int .i64 c,.int .i64 d]
structure BW (W:World) (g N:Nat) (B:Nat→UInt8):Prop where
 c:∀ j,j<N→W.cell? ⟨g,j,none⟩=some (.int .u8 (B j).toNat)
 f:∀ j,j<N→W.frozen? ⟨g,j,none⟩=false
theorem BW.set {W:World}{g N:Nat}{B B':Nat→UInt8} (h:BW W g N B) {k:Nat} (hk:k<N) {x:UInt8} (e:∀ j,j<N→B' j=if j=k then x else B j):BW (W.setCell ⟨g,k,none⟩ (.int .u8 x.toNat)) g N B':=by
 refine⟨fun j hj=>?_,fun o ho=>by simpa using h.f o ho⟩
 rw[e j hj]
 by_cases q:j=k
 ·subst q;rw[World.cell?_setCell_same _ _ _ (h.c j hj)];simp
 ·rw[World.cell?_setCell_other _ _ _ _ (by first|(simp;done)|(simp;omega)),h.c j hj];simp[q]
theorem bw_new (w:World) (s:ByteArray) {E:List UInt8} (hE:s=ba E):BW (Lib.bytesWorld w 5 s) w.heap.size s.size (fun j=>E.getD j 0)∧Below w.heap.size w (Lib.bytesWorld w 5 s):=by
 refine⟨⟨fun j hj=>?_,fun j hj=>?_⟩,⟨rfl,rfl,rfl,by rw[Lib.bytesWorld_size];omega,fun k hk=>Lib.bytesWorld_at_old _ _ _ _ hk⟩⟩
 ·rw[Lib.bytesWorld_cell _ _ _ _ hj,hE]
 ·simp only[World.frozen?,Lib.bytesWorld_at_new]
  have:(Lib.bytesCells w 5 s).size=s.size+(grownCap w s.size 0 5-s.size):=by simp[Lib.bytesCells]
  simp
  omega
theorem bits_xor_u8 (a b:UInt8):bits .xor .u8 (a.toNat:Int) (b.toNat:Int)=(((a ^^^ b).toNat:Nat):Int):=by
 have ha:=a.toNat_lt
 have hb:=b.toNat_lt
 have h1:(BitVec.ofInt 8 (a.toNat:Int)).toNat=a.toNat:=by
  rw[BitVec.ofInt_natCast,BitVec.toNat_ofNat];exact Nat.mod_eq_of_lt (by omega)
 have h2:(BitVec.ofInt 8 (b.toNat:Int)).toNat=b.toNat:=by
  rw[BitVec.ofInt_natCast,BitVec.toNat_ofNat];exact Nat.mod_eq_of_lt (by omega)
 have hx:a.toNat ^^^ b.toNat<256:=Nat.xor_lt_two_pow (n:=8) ha hb
 show IntKind.u8.wrap ((BitVec.ofInt 8 (a.toNat:Int) ^^^ BitVec.ofInt 8 (b.toNat:Int)).toNat:Int)=_
 rw[BitVec.toNat_xor,h1,h2,IntKind.wrap_u8,UInt8.toNat_xor]
 omega
def chg (V:Nat→UInt8):Nat→Bool
 |0=>false
 |i+1=>chg V i||V i != 0
theorem chg_yes {V:Nat→UInt8}:∀ {i:Nat},chg V i=true→∃ j,j<i∧V j≠0
 |0,h=>by simp[chg] at h
 |i+1,h=>by
  simp only[chg,Bool.or_eq_true,bne_iff_ne] at h
  rcases h with h|h
  ·obtain⟨j,h1,h2⟩:=chg_yes h;exact⟨j,by omega,h2⟩
  ·exact⟨i,by omega,h⟩
theorem chg_no {V:Nat→UInt8}:∀ {i:Nat},chg V i=false→∀ j,j<i→V j=0
 |0,_=>fun j hj=>by omega
 |i+1,h=>fun j hj=>by
  simp only[chg,Bool.or_eq_false_iff,bne_eq_false_iff_eq] at h
  by_cases q:j=i
  ·subst q;exact h.2
  ·exact chg_no h.1 j (by omega)
def turnB (V:Nat→UInt8) (k i:Nat) (E:List UInt8) (j:Nat):UInt8:=if k≤j∧j<k+i then E.getD j 0 ^^^ V (j-k) else E.getD j 0
theorem turnB_0 (V:Nat→UInt8) (k:Nat) (E:List UInt8) (j:Nat):turnB V k 0 E j=E.getD j 0:=by
 unfold turnB;rw[if_neg (by omega)]
theorem turnB_step (V:Nat→UInt8) (k i:Nat) (E:List UInt8) (j:Nat):turnB V k (i+1) E j=if j=k+i then E.getD (k+i) 0 ^^^ V i else turnB V k i E j:=by
 unfold turnB
 by_cases h:j=k+i
 ·subst h
  rw[if_pos ⟨by omega,by omega⟩,if_pos rfl,show k+i-k=i by omega]
 ·rw[if_neg h]
  by_cases q:k≤j∧j<k+i
  ·rw[if_pos q,if_pos ⟨q.1,by omega⟩]
  ·rw[if_neg q,if_neg (by omega)]
theorem turnB_at (V:Nat→UInt8) (k i:Nat) {E:List UInt8}{j:Nat} (h:j<E.length):turnB V k i E j=(trn V k i E)[j]'(by rw[trn_len];exact h):=by
 rw[trn_at h]
 unfold turnB
 rw[getD_at h]
theorem turnB_new (V:Nat→UInt8) (k i:Nat) (E:List UInt8):turnB V k i E (k+i)=E.getD (k+i) 0:=by
 unfold turnB;rw[if_neg (by omega)]
theorem BW.c_0 {W:World}{g N k:Nat}{E:List UInt8}{V:Nat→UInt8} (h:BW W g N (fun j=>E.getD j 0)):BW W g N (turnB V k 0 E):=⟨fun j hj=>by rw[turnB_0];exact h.c j hj,h.f⟩
theorem bw_text {W:World}{g cap:Nat}{B:Nat→UInt8}{L:List UInt8} (h:BW W g L.length B) (e:∀ j (hj:j<L.length),B j=L[j]):(convert 73 9 (.slice (some ⟨g,0,none⟩) L.length cap)).run Tryz.prog W=.ok (.string (ba L)) W:=by
 refine run_convert_bytes_back W _ _ _ _ cap L Tryz.underlying73 und_byte und_str (fun j hj=>?_)
 have:=h.c j hj
 rw[e j hj] at this
 cases j with
 |zero=>simpa [Addr.add] using this
 |succ j=>simpa [Addr.add] using this
theorem spoilt_any (w:World) (v:Value) (l:List Int) (ends form at_ m0 m1 m2 m3:Int) (hS:Sx.Tabs w) (hT:TabZ w) (hr:Raw w.heap.size w v l) (r1:-9223372036854775808≤ends∧ends≤9223372036854775807) (r2:-9223372036854775808≤form∧form≤9223372036854775807) (r3:-9223372036854775808≤at_∧at_≤9223372036854775807) (rm:∀ z∈[m0,m1,m2,m3],-9223372036854775808≤z∧z≤9223372036854775807) :
  Calls Tryz.prog 10 #[v,.int .i64 ends,.int .i64 form,.int .i64 at_,mkV m0 m1 m2 m3] w fun e w'=>e=.returned (.bool true)∧Below w.heap.size w w':=by
 have HPL:Hid (∀ x,Calls Tryz.prog 20 #[] (w.alloc x) fun e w'=>e=.returned (.bool true)∧Below (w.alloc x).heap.size (w.alloc x) w'):=fun x=>by
  have hb:Below w.heap.size w (w.alloc x):=(Below.refl _ _).alloc (Nat.le_refl _) _
  exact plain_yes _ (tabs_at hS hb) (tabz_at hT hb)
 have HSO:Hid (∀ W,Below w.heap.size w W→Calls Tryz.prog 30 #[v,.int .i64 ends] W fun e w'=>∃ p f b t,e=.returned (svV p f b)∧HTAt W.heap.size w' p t∧HTOk 4 t∧Below W.heap.size W w'):=fun W hW=>sought_at hr hW r1.1 r1.2
 have HS:Hid (Sx.Tabs w):=hS
 have HTZ:Hid (TabZ w):=hT
 clear hr hS hT
 go_enter Tryz.func10,Tryz.ntmps10
 go_upto_region 3 with(first|(have:=hmark;go_at_call 30;refine(HSO.out _ HB1.out).mono ?_;rintro e w2 ⟨p,f,b,t,rfl,ht2,ho2,hb2⟩;have HT2:Hid _:=ht2;have HO2:Hid _:=ho2;have HB2:Hid (Below w.heap.size w w2):=HB1.out.trans (hb2.mono HB1.out.size);have HBL:Hid (Below w1.heap.size w1 w2):=hb2;clear ht2 ho2 hb2)|(go_at_call 20;refine(HPL.out _).mono ?_;rintro e w1 ⟨rfl,hb1⟩;have HB1:Hid (Below w.heap.size w w1):=((Below.refl _ _).alloc (Nat.le_refl _) _).trans (hb1.mono (by simp));have HK1:Hid (w1.heap[w.heap.size]?=_):=(hb1.block _ (by simp)).trans (heap_alloc_new w _);have hmark:True:=trivial;clear hb1))
 obtain⟨W3,hW3⟩:∃ W3,W3=w2.alloc (.cells #[.pointer (some ⟨p,0,none⟩),.bool f,.bool b] 62):=⟨_,rfl⟩
 have HB3:Hid (Below w.heap.size w W3):=by rw[hW3];exact HB2.out.alloc HB2.out.size _
 have HK3:Hid (SpK w (.cells #[.int .i64 m0,.int .i64 m1,.int .i64 m2,.int .i64 m3] 72) W3):=by
  rw[hW3]
  exact SpK.alloc ⟨HB2.out,(HBL.out.block _ (some_lt HK1.out)).trans HK1.out⟩ _
 obtain⟨s0,s1,s2⟩:=box3 (show W3.heap[w2.heap.size]?=some (.cells #[.pointer (some ⟨p,0,none⟩),.bool f,.bool b] 62) by rw[hW3];exact heap_alloc_new w2 _)
 obtain⟨S,hSe⟩:∃ S,S=ba (ptx t f b):=⟨_,rfl⟩
 have HTX:Hid (Calls Tryz.prog 31 #[svV p f b] W3 fun e w'=>e=.returned (.string S)∧Below W3.heap.size W3 w'):=by
  rw[hSe]
  have:=HT2.out.below (show Below w2.heap.size w2 W3 by rw[hW3];exact(Below.refl _ _).alloc (Nat.le_refl _) _)
  exact stext_any HO2.out this f b
 rw[←hW3]
 clear hW3 HT2 HB2 HB1 HK1 HBL HPL HSO HB3
 have hlen:=ptx_len HO2.out f b
 rcases ptx_comp HO2.out f b with⟨hc,-⟩|⟨T,n,k,hc,hF,hn,hk,-,-,-⟩
 ·have HCP:Hid (∀ W,Below w.heap.size w W→Calls Tryz.prog 29 #[.string S] W fun e w'=>e=.returned (.tuple #[.pointer none,.bool true])∧Below W.heap.size W w'):=fun W hW=>by rw[hSe];exact cpd_no HS.out HTZ.out hW (by omega) hc
  clear hc hlen hSe
  go_wp2_with (first|(have hmk:=HK4.out;go_at_call 29;refine(HCP.out _ HK4.out.b).mono ?_;clear hmk;rintro e w5 ⟨rfl,hb5⟩;have HK5:Hid _:=HK4.out.next hb5;clear hb5)|(go_at_call 31;refine HTX.out.mono ?_;rintro e w4 ⟨rfl,hb4⟩;have HK4:Hid _:=HK3.out.next hb4;clear hb4))
  go_ret
  exact⟨rfl,HK5.out.b⟩
 ·obtain⟨tb,htb⟩:∃ tb,tb=tbOf (leastM T):=⟨_,rfl⟩
  obtain⟨hi,hsm⟩:=least_small hF.ok hn hk
  rw[←htb] at hc hi hsm
  have HCP:Hid (∀ W,Below w.heap.size w W→Calls Tryz.prog 29 #[.string S] W fun e w'=>∃ m c,e=.returned (.tuple #[.pointer (some ⟨m,0,none⟩),.bool true])∧Mch w' m tb c∧Below W.heap.size W w'):=fun W hW=>by rw[hSe];exact cpd_yes HS.out HTZ.out hW (by omega) hc
  have HI:Hid (isTb tb=true):=hi
  have HSM:Hid (Small tb):=hsm
  clear hc hlen hSe hF hn hk htb hi hsm
  go_upto_region 8 with(first|(have hmk:=HK4.out;go_at_call 29;refine(HCP.out _ HK4.out.b).mono ?_;clear hmk;rintro e w5 ⟨m,c,rfl,hm5,hb5⟩;have HM5:Hid (Mch w5 m tb c):=hm5;have HK5:Hid _:=HK4.out.next hb5;clear hb5 hm5)|(go_at_call 31;refine HTX.out.mono ?_;rintro e w4 ⟨rfl,hb4⟩;have HK4:Hid _:=HK3.out.next hb4;clear hb4))
  clear HTX HCP HK4 HK3 s0 s1 s2
  obtain⟨kd,hkd,hp2⟩:=pk_at r2.1 r2.2 (n:=2) (by omega) (by omega) (z:=2) (by omega)
  obtain⟨p4,hp4l,hp4⟩:=pk_at r2.1 r2.2 (n:=4) (by omega) (by omega) (z:=4) (by omega)
  have HP2:Hid _:=hp2
  have HP4:Hid _:=hp4
  obtain⟨big,hbig⟩:∃ big,big=decide ((1:Int)<p4):=⟨_,rfl⟩
  obtain⟨E,hE⟩:∃ E,E=enc tb kd big:=⟨_,rfl⟩
  obtain⟨Eb,hEb⟩:∃ Eb,Eb=ba E:=⟨_,rfl⟩
  have HE:Hid (E=enc tb kd big):=hE
  have HEB:Hid (Eb=ba E):=hEb
  have HEN:Hid (∀ W m c,Mch W m tb c→Calls Tryz.prog 34 #[.pointer (some ⟨m,0,none⟩),.int .i64 kd,.bool (decide ((1:Int)<p4))] W fun e w'=>e=.returned (.tuple #[.string Eb,.int .i64 0])∧Below W.heap.size W w'):=fun W m c h=>by
   rw[←hbig,hEb,hE];exact encode_any W m tb c h kd (by omega) big
  obtain⟨cc,hok⟩:=tbOk_of HI.out
  obtain⟨hN1,hN2⟩:=enc_size (kind:=kd) big hok.fits
  rw[←hE] at hN1 hN2
  have hsz:Eb.size=E.length:=by rw[hEb,ba_size]
  rw[←hsz] at hN1 hN2
  have HLD:Hid (∀ W,Calls Tryz.prog 35 #[.string Eb] W fun e w'=>∃ m c,e=.returned (.tuple #[.pointer (some ⟨m,0,none⟩),.int .i64 0])∧Mch w' m tb c∧Below W.heap.size W w'):=fun W=>by
   rw[hEb]
   refine(load_some W E (by unfold maxLen;omega) tb (by rw[hE];exact load_self tabular_is HI.out (by omega) big)).mono ?_
   rintro e w' ⟨m,c,h1,h2,-,h3⟩
   exact⟨m,c,h1,h2,h3⟩
  have HST:Hid (∀ W va vn va' vn',TabIn W tb va vn→TabIn W tb va' vn'→Calls Tryz.prog 26 #[tv tb va vn,tv tb va' vn'] W fun e w'=>e=.returned (.bool true)∧Below W.heap.size W w'):=fun W va vn va' vn' h h'=>sameTable_eq W tb va vn va' vn' h h' HSM.out
  have HSZ:Hid (Eb.size=E.length):=hsz
  have HBIG:Hid (big=decide ((1:Int)<p4)):=hbig
  obtain⟨N,hN⟩:∃ N,N=Eb.size:=⟨_,rfl⟩
  have HN:Hid (N=Eb.size):=hN
  have hl1:decide ((Eb.size:Int)<274)=false:=by simp;omega
  have hl2:¬(Eb.size:Int)<274:=by omega
  clear hp2 hp4 hE hEb hsz hbig hok hN
  go_upto_region 9 with(go_at_call 21;refine(HP2.out _).mono ?_;rintro e w6 ⟨rfl,hw6⟩;obtain rfl:=hw6.symm)
  go_upto_region 10 with(go_at_call 21;refine(HP4.out _).mono ?_;rintro e w6 ⟨rfl,hw6⟩;obtain rfl:=hw6.symm)
  go_upto_region 11 with(go_at_call 34;refine(HEN.out _ _ _ HM5.out).mono ?_;rintro e w6 ⟨rfl,hb6⟩;have HM6:Hid (Mch w6 m tb c):=HM5.out.below hb6;have HK6:Hid _:=HK5.out.next hb6;clear hb6)
  clear HM5 HK5
  go_upto_region 14 with(go_at_call 35;refine(HLD.out _).mono ?_;rintro e w7 ⟨y,c7,rfl,hy7,hb7⟩;have HM7:Hid (Mch w7 m tb c):=HM6.out.below hb7;have HY7:Hid (Mch w7 y tb c7):=hy7;have HK7:Hid _:=HK6.out.next hb7;clear hb7 hy7)
  clear HM6 HK6
  go_upto_region 15 with(go_at_call 34;refine(HEN.out _ _ _ HY7.out).mono ?_;rintro e w8 ⟨rfl,hb8⟩;have HM8:Hid (Mch w8 m tb c):=HM7.out.below hb8;have HY8:Hid (Mch w8 y tb c7):=HY7.out.below hb8;have HK8:Hid _:=HK7.out.next hb8;clear hb8)
  clear HM7 HY7 HK7
  go_upto_region 16 with(go_at_call 16;refine(mtable_any _ m tb c HM8.out).mono ?_;rintro e w9 ⟨tA,tB,gs,rfl,htn,hb9⟩;have HT9:Hid (TabIn w9 tb (.slice (some ⟨tA,0,none⟩) tb.acc.length tb.acc.length) (.slice (some ⟨tB,0,none⟩) tb.next.length tb.next.length)):=htn.tab;have HY9:Hid (Mch w9 y tb c7):=HY8.out.below hb9;have HK9:Hid _:=HK8.out.next hb9;clear hb9 htn)
  clear HM8 HY8 HK8
  obtain⟨Wa,hWa⟩:∃ Wa,Wa=w9.alloc (.cells #[.bool tb.front,.bool tb.back,.int .i64 tb.start,.string (ba tb.cls),.slice (some ⟨tA,0,none⟩) tb.acc.length tb.acc.length,.slice (some ⟨tB,0,none⟩) tb.next.length tb.next.length] 33):=⟨_,rfl⟩
  rw[←hWa]
  have HKa:Hid (SpK w (.cells #[.int .i64 m0,.int .i64 m1,.int .i64 m2,.int .i64 m3] 72) Wa):=by rw[hWa];exact HK9.out.alloc _
  have hba:Below w9.heap.size w9 Wa:=by rw[hWa];exact(Below.refl _ _).alloc (Nat.le_refl _) _
  have HTa:Hid (TabIn Wa tb (.slice (some ⟨tA,0,none⟩) tb.acc.length tb.acc.length) (.slice (some ⟨tB,0,none⟩) tb.next.length tb.next.length)):=HT9.out.below hba
  have HYa:Hid (Mch Wa y tb c7):=HY9.out.below hba
  have HXa:Hid (Wa.heap[w9.heap.size]?=some (.cells #[.bool tb.front,.bool tb.back,.int .i64 tb.start,.string (ba tb.cls),.slice (some ⟨tA,0,none⟩) tb.acc.length tb.acc.length,.slice (some ⟨tB,0,none⟩) tb.next.length tb.next.length] 33)):=by rw[hWa];exact heap_alloc_new w9 _
  clear hWa hba HT9 HY9 HK9
  go_upto_region 17 with(go_at_call 16;refine(mtable_any _ y tb c7 HYa.out).mono ?_;rintro e wb ⟨tC,tD,gs',rfl,htn,hb10⟩;have HTb:Hid (TabIn wb tb (.slice (some ⟨tA,0,none⟩) tb.acc.length tb.acc.length) (.slice (some ⟨tB,0,none⟩) tb.next.length tb.next.length)∧TabIn wb tb (.slice (some ⟨tC,0,none⟩) tb.acc.length tb.acc.length) (.slice (some ⟨tD,0,none⟩) tb.next.length tb.next.length)):=⟨HTa.out.below hb10,htn.tab⟩;have HKb:Hid _:=HKa.out.next hb10;have HXb:Hid _:=(hb10.block _ (some_lt HXa.out)).trans HXa.out;clear hb10 htn)
  obtain⟨Wc,hWc⟩:∃ Wc,Wc=wb.alloc (.cells #[.bool tb.front,.bool tb.back,.int .i64 tb.start,.string (ba tb.cls),.slice (some ⟨tC,0,none⟩) tb.acc.length tb.acc.length,.slice (some ⟨tD,0,none⟩) tb.next.length tb.next.length] 33):=⟨_,rfl⟩
  rw[←hWc]
  have HKc:Hid (SpK w (.cells #[.int .i64 m0,.int .i64 m1,.int .i64 m2,.int .i64 m3] 72) Wc):=by rw[hWc];exact HKb.out.alloc _
  have hbc:Below wb.heap.size wb Wc:=by rw[hWc];exact(Below.refl _ _).alloc (Nat.le_refl _) _
  have HTc:Hid (TabIn Wc tb (.slice (some ⟨tA,0,none⟩) tb.acc.length tb.acc.length) (.slice (some ⟨tB,0,none⟩) tb.next.length tb.next.length)∧TabIn Wc tb (.slice (some ⟨tC,0,none⟩) tb.acc.length tb.acc.length) (.slice (some ⟨tD,0,none⟩) tb.next.length tb.next.length)):=⟨HTb.out.1.below hbc,HTb.out.2.below hbc⟩
  obtain⟨x0,x1,x2,x3,x4,x5⟩:=box6 ((hbc.block _ (some_lt HXb.out)).trans HXb.out)
  obtain⟨y0,y1,y2,y3,y4,y5⟩:=box6 (show Wc.heap[wb.heap.size]?=_ by rw[hWc];exact heap_alloc_new wb _)
  clear hWc hbc HTb HKb HXb HXa HTa HYa HKa
  go_upto_region 18 with(go_at_call 26;refine(HST.out _ _ _ _ _ HTc.out.1 HTc.out.2).mono ?_;rintro e wd ⟨rfl,hb11⟩;have HKd:Hid _:=HKc.out.next hb11;clear hb11)
  clear x0 x1 x2 x3 x4 x5 y0 y1 y2 y3 y4 y5 HTc HKc HST
  obtain⟨k0,hk0,hpk⟩:∃ k0,k0<Eb.size∧∀ W,Calls Tryz.prog 21 #[.int .i64 at_,.int .i64 (Eb.size:Int)] W fun e w'=>e=.returned (.int .i64 (k0:Nat))∧w'=W:=⟨pkN at_ Eb.size,pkN_lt _ _ (by omega),fun W=>kpick_any W at_ Eb.size r3.1 r3.2 (by omega) (by omega)⟩
  have HPK:Hid _:=hpk
  clear hpk
  go_upto_region 21 with(go_at_call 21;refine(HPK.out _).mono ?_;rintro e w6 ⟨rfl,hw6⟩;obtain rfl:=hw6.symm)
  clear HPK
  obtain⟨tz,htz⟩:∃ tz,tz=if k0<Eb.size-4 then Eb.size-4 else Eb.size:=⟨_,rfl⟩
  have HTO:Hid (tz≤Eb.size∧k0<tz∧(k0<Eb.size-4→tz=Eb.size-4)):=by
   show _∧_∧_
   rw[htz];split<;>omega
  have hcv:=fun x:World=>Lib.run_convert_string_bytes (P:=Tryz.prog) x 9 73 5 Eb und_str Tryz.underlying73 und_byte
  by_cases hks:k0<Eb.size-4
  ·have hksI:(k0:Int)<Eb.size-4:=by omega
   have hte:(Eb.size:Int)-4=tz:=by rw[htz,if_pos hks];omega
   have HTE:Hid _:=hte
   clear hte htz
   go_upto_region 24 with(fail)
   rw[HTE.out]
   go_upto_region 25 with(fail)
   obtain⟨hbw,hbb⟩:=bw_new wd Eb HEB.out
   obtain⟨W0,hW0⟩:∃ W0,W0=Lib.bytesWorld wd 5 Eb:=⟨_,rfl⟩
   rw[←hW0] at hbw hbb ⊢
   have HBW:Hid (BW W0 wd.heap.size Eb.size (fun j=>E.getD j 0)):=hbw
   have HK0:Hid (SpK w (.cells #[.int .i64 m0,.int .i64 m1,.int .i64 m2,.int .i64 m3] 72) W0):=HKd.out.next hbb
   have HG:Hid (w.heap.size<wd.heap.size):=some_lt HKd.out.k
   obtain⟨g,hg⟩:∃ g,g=wd.heap.size:=⟨_,rfl⟩
   obtain⟨cap,hcap⟩:∃ cap,cap=grownCap wd Eb.size 0 5:=⟨_,rfl⟩
   rw[←hg] at HBW HG ⊢
   rw[←hcap]
   clear hW0 hbw hbb hcv hg hcap HKd
   obtain⟨mask,hmask⟩:∃ mask:Nat→Int,mask=fun i=>[m0,m1,m2,m3].getD i 0:=⟨_,rfl⟩
   obtain⟨V,hV⟩:∃ V:Nat→UInt8,V=fun i=>UInt8.ofNat (pkN (mask i) 256):=⟨_,rfl⟩
   have HVN:Hid (∀ i,((V i).toNat:Nat)=pkN (mask i) 256):=fun i=>by
    have:=pkN_lt (mask i) 256 (by omega)
    rw[hV];simp;omega
   have HMP:Hid (∀ i,i<4→∀ W,Calls Tryz.prog 21 #[.int .i64 (mask i),.int .i64 256] W fun e w'=>e=.returned (.int .i64 ((V i).toNat:Nat))∧w'=W):=fun i hi W=>by
    rw[HVN.out i]
    have:=rm (mask i) (by
     rw[hmask]
     have:i=0∨i=1∨i=2∨i=3:=by omega
     rcases this with rfl|rfl|rfl|rfl<;>simp)
    exact kpick_any W (mask i) 256 this.1 this.2 (by omega) (by omega)
   have HMC:Hid (∀ W,SpK w (.cells #[.int .i64 m0,.int .i64 m1,.int .i64 m2,.int .i64 m3] 72) W→∀ i,i<4→W.cell? ⟨w.heap.size,i,none⟩=some (.int .i64 (mask i))):=fun W hW i hi=>by
    have hbx:=hW.k
    rw[hmask]
    simp only[World.cell?,hbx]
    have:i=0∨i=1∨i=2∨i=3:=by omega
    rcases this with rfl|rfl|rfl|rfl<;>simp[go_sem]
   clear hmask hV rm
   go_upto_region 27 with(fail)
   go_loopw [31,32,33] (fun ch j _ wr=>∃ i:Nat,ch=.bool (chg V i)∧j=.int .i64 i∧i≤4∧k0+i≤tz∧SpK w (.cells #[.int .i64 m0,.int .i64 m1,.int .i64 m2,.int .i64 m3] 72) wr∧BW wr g Eb.size (turnB V k0 i E)) (fun _ j _ _=>4-(intOf j).toNat)
   case atStart=>exact⟨0,rfl,rfl,by omega,by have:=HTO.out;omega,HK0.out,HBW.out.c_0⟩
   case round=>
    obtain⟨i,rfl,rfl,hi4,hit,hkr,hbr⟩:=hrel
    have HKR:Hid (SpK w (.cells #[.int .i64 m0,.int .i64 m1,.int .i64 m2,.int .i64 m3] 72) wr):=hkr
    have HBR:Hid (BW wr g Eb.size (turnB V k0 i E)):=hbr
    by_cases hlt:i<4∧k0+i<tz
    ·obtain⟨h4,h5⟩:=hlt
     have h4I:(i:Int)<4:=by omega
     have h5I:(k0:Int)+i<tz:=by omega
     have hki:k0+i<Eb.size:=by have:=HTO.out;omega
     have d1:=HMC.out wr hkr i h4
     have d2:=hbr.c (k0+i) hki
     rw[turnB_new] at d2
     have d3:=hbr.f (k0+i) hki
     obtain⟨x,hx⟩:∃ x,x=E.getD (k0+i) 0:=⟨_,rfl⟩
     rw[←hx] at d2
     have hxor:=bits_xor_u8 x (V i)
     have hv8:=(V i).toNat_lt
     have HNXT:Hid (BW (wr.setCell ⟨g,k0+i,none⟩ (.int .u8 ((x.toNat ^^^ (V i).toNat:Nat):Int))) g Eb.size (turnB V k0 (i+1) E)):=by rw[←UInt8.toNat_xor];exact hbr.set hki (fun j _=>by rw[turnB_step,hx])
     have HKN:Hid (∀ v,SpK w (.cells #[.int .i64 m0,.int .i64 m1,.int .i64 m2,.int .i64 m3] 72) (wr.setCell ⟨g,k0+i,none⟩ v)):=fun v=>⟨hkr.b.setCell (Nat.le_of_lt HG.out) v,(set_blk _ _ _ _ (by have:=HG.out;omega)).trans hkr.k⟩
     have HPI:Hid _:=HMP.out i h4
     have HCH:Hid (chg V (i+1)=(chg V i||V i != 0)):=rfl
     have hvz:(((V i).toNat:Int) != 0)=(V i != 0):=by
      by_cases q:V i=0
      ·rw[q];rfl
      ·have h1:(V i).toNat≠0:=fun e=>q (UInt8.toNat_inj.1 e)
       have h2:((V i).toNat:Int)≠0:=by omega
       rw[bne_iff_ne.2 h2,bne_iff_ne.2 q]
     clear hkr hbr hx
     generalize hch:chg V i=ch at *
     generalize V i=vi at *
     generalize mask i=mi at *
     cases ch
     all_goals
      go_wp2_with (go_at_call 21;refine(HPI.out _).mono ?_;rintro e w6 ⟨rfl,hw6⟩;obtain rfl:=hw6.symm)
      go_roundw
      case rel=>exact⟨i+1,by rw[HCH.out];simp,by go_num,by omega,by omega,HKN.out _,HNXT.out⟩
      case measure=>simp[intOf]<;>omega
    ·have HII:Hid (i=4∨k0+i=tz):=by show _∨_;omega
     obtain⟨L,hL⟩:∃ L,L=trn V k0 i E:=⟨_,rfl⟩
     have hLl:L.length=Eb.size:=by rw[hL,trn_len];exact HSZ.out.symm
     have hcb:(convert 73 9 (.slice (some ⟨g,0,none⟩) Eb.size cap)).run Tryz.prog wr=.ok (.string (ba L)) wr:=by
      rw[←hLl]
      rw[←hLl] at hbr
      exact bw_text hbr (fun j hj=>by
       have hj':j<E.length:=by rw[←HSZ.out,←hLl];exact hj
       rw[turnB_at V k0 i hj']
       simp only[hL])
     obtain⟨LB,hLB⟩:∃ LB,LB=ba L:=⟨_,rfl⟩
     rw[←hLB] at hcb
     have hEl:=HSZ.out
     have hto:=HTO.out
     have HLZ:Hid (∀ W,Calls Tryz.prog 35 #[.string LB] W fun e w'=>∃ q,e=.returned (.tuple #[.pointer q,.int .i64 (if chg V i then 6 else 0)])∧(chg V i=true→q=none)∧(chg V i=false→∃ m,q=some ⟨m,0,none⟩)∧Below W.heap.size W w'):=fun W=>by
      rw[hLB]
      have hl:L.length≤maxLen:=by unfold maxLen;omega
      cases hch:chg V i with
      |true=>
       have:=load_none W L hl (by
        rw[hL,HE.out]
        rw[HE.out] at hEl
        refine load_trn tabular_is HI.out (by omega) big hi4 (by omega) (fun q=>?_) (chg_yes hch)
        omega)
       refine this.mono ?_
       rintro e w' ⟨h1,h2⟩
       exact⟨none,by simpa using h1,fun _=>rfl,(fun h=>by cases h),h2⟩
      |false=>
       have:=load_some W L hl tb (by
        rw[hL,trn_same (chg_no hch),HE.out]
        exact load_self tabular_is HI.out (by omega) big)
       refine this.mono ?_
       rintro e w' ⟨m,c,h1,-,-,h2⟩
       exact⟨some ⟨m,0,none⟩,by simpa using h1,(fun h=>by cases h),fun _=>⟨m,rfl⟩,h2⟩
     have HLS:Hid (∀ W,Calls Tryz.prog 35 #[.string (Eb.extract 0 k0)] W fun e w'=>e=.returned (.tuple #[.pointer none,.int .i64 6])∧Below W.heap.size W w'):=fun W=>by
      rw[HEB.out,ba_take]
      refine load_none W _ (by unfold maxLen;simp;omega) ?_
      rw[HE.out]
      rw[HE.out] at hEl
      exact load_cut tabular_is HI.out (by omega) big (by omega)
     have HLL:Hid (∀ W,Calls Tryz.prog 35 #[.string (Eb++⟨#[0]⟩)] W fun e w'=>e=.returned (.tuple #[.pointer none,.int .i64 6])∧Below W.heap.size W w'):=fun W=>by
      rw[HEB.out,show(⟨#[0]⟩:ByteArray)=ba [0] from rfl,ba_cat]
      refine load_none W _ (by unfold maxLen;simp;omega) ?_
      rw[HE.out]
      exact load_long tabular_is HI.out (by omega) big 0
     have a1:¬ 9223372036854775807<Eb.size+1:=by omega
     have hk0s:¬(Eb.size:Int)<k0:=by omega
     have hk0d:¬ Eb.size<k0:=by omega
     clear hbr hL hLl hLB hEl hto hkr HMC HMP HVN
     have hcond:(i=4)∨(¬ i=4∧k0+i=tz):=by have:=HII.out;omega
     generalize chg V i=ch at *
     rcases hcond with h4|⟨h4,h5⟩
     all_goals
      first|(have h4I:¬(i:Int)<4:=by omega)|(have h4I:(i:Int)<4:=by omega)
      first|(have h5I:¬(k0:Int)+i<tz:=by omega)|skip
      clear h4
      go_upto_region 33 with(go_at_call 35;refine(HLZ.out _).mono ?_;rintro e wf ⟨q,rfl,hq1,hq2,hbf⟩;have HKF:Hid _:=HKR.out.next hbf;have HQ1:Hid _:=hq1;have HQ2:Hid _:=hq2;clear hbf hq1 hq2)
      go_upto_region 34 with(go_at_call 35;refine(HLS.out _).mono ?_;rintro e wg ⟨rfl,hbg⟩;have HKG:Hid _:=HKF.out.next hbg;clear hbg)
      go_upto_region 35 with(go_at_call 35;refine(HLL.out _).mono ?_;rintro e wh ⟨rfl,hbh⟩;have HKH:Hid _:=HKG.out.next hbh;clear hbh)
      cases ch
      ·obtain⟨mq,rfl⟩:=HQ2.out rfl
       go_wp2
       go_ret
       exact⟨rfl,HKH.out.b⟩
      ·obtain rfl:=HQ1.out rfl
       go_wp2
       go_ret
       exact⟨rfl,HKH.out.b⟩
  ·have hksI:¬(k0:Int)<Eb.size-4:=by omega
   obtain rfl:tz=Eb.size:=by rw[htz,if_neg hks]
   clear htz
   go_upto_region 24 with(fail)
   go_upto_region 25 with(fail)
   obtain⟨hbw,hbb⟩:=bw_new wd Eb HEB.out
   obtain⟨W0,hW0⟩:∃ W0,W0=Lib.bytesWorld wd 5 Eb:=⟨_,rfl⟩
   rw[←hW0] at hbw hbb ⊢
   have HBW:Hid (BW W0 wd.heap.size Eb.size (fun j=>E.getD j 0)):=hbw
   have HK0:Hid (SpK w (.cells #[.int .i64 m0,.int .i64 m1,.int .i64 m2,.int .i64 m3] 72) W0):=HKd.out.next hbb
   have HG:Hid (w.heap.size<wd.heap.size):=some_lt HKd.out.k
   obtain⟨g,hg⟩:∃ g,g=wd.heap.size:=⟨_,rfl⟩
   obtain⟨cap,hcap⟩:∃ cap,cap=grownCap wd Eb.size 0 5:=⟨_,rfl⟩
   rw[←hg] at HBW HG ⊢
   rw[←hcap]
   clear hW0 hbw hbb hcv hg hcap HKd
   obtain⟨mask,hmask⟩:∃ mask:Nat→Int,mask=fun i=>[m0,m1,m2,m3].getD i 0:=⟨_,rfl⟩
   obtain⟨V,hV⟩:∃ V:Nat→UInt8,V=fun i=>UInt8.ofNat (pkN (mask i) 256):=⟨_,rfl⟩
   have HVN:Hid (∀ i,((V i).toNat:Nat)=pkN (mask i) 256):=fun i=>by
    have:=pkN_lt (mask i) 256 (by omega)
    rw[hV];simp;omega
   have HMP:Hid (∀ i,i<4→∀ W,Calls Tryz.prog 21 #[.int .i64 (mask i),.int .i64 256] W fun e w'=>e=.returned (.int .i64 ((V i).toNat:Nat))∧w'=W):=fun i hi W=>by
    rw[HVN.out i]
    have:=rm (mask i) (by
     rw[hmask]
     have:i=0∨i=1∨i=2∨i=3:=by omega
     rcases this with rfl|rfl|rfl|rfl<;>simp)
    exact kpick_any W (mask i) 256 this.1 this.2 (by omega) (by omega)
   have HMC:Hid (∀ W,SpK w (.cells #[.int .i64 m0,.int .i64 m1,.int .i64 m2,.int .i64 m3] 72) W→∀ i,i<4→W.cell? ⟨w.heap.size,i,none⟩=some (.int .i64 (mask i))):=fun W hW i hi=>by
    have hbx:=hW.k
    rw[hmask]
    simp only[World.cell?,hbx]
    have:i=0∨i=1∨i=2∨i=3:=by omega
    rcases this with rfl|rfl|rfl|rfl<;>simp[go_sem]
   clear hmask hV rm
   go_upto_region 27 with(fail)
   go_loopw [31,32,33] (fun ch j _ wr=>∃ i:Nat,ch=.bool (chg V i)∧j=.int .i64 i∧i≤4∧k0+i≤Eb.size∧SpK w (.cells #[.int .i64 m0,.int .i64 m1,.int .i64 m2,.int .i64 m3] 72) wr∧BW wr g Eb.size (turnB V k0 i E)) (fun _ j _ _=>4-(intOf j).toNat)
   case atStart=>exact⟨0,rfl,rfl,by omega,by have:=HTO.out;omega,HK0.out,HBW.out.c_0⟩
   case round=>
    obtain⟨i,rfl,rfl,hi4,hit,hkr,hbr⟩:=hrel
    have HKR:Hid (SpK w (.cells #[.int .i64 m0,.int .i64 m1,.int .i64 m2,.int .i64 m3] 72) wr):=hkr
    have HBR:Hid (BW wr g Eb.size (turnB V k0 i E)):=hbr
    by_cases hlt:i<4∧k0+i<Eb.size
    ·obtain⟨h4,h5⟩:=hlt
     have h4I:(i:Int)<4:=by omega
     have h5I:(k0:Int)+i<Eb.size:=by omega
     have hki:k0+i<Eb.size:=by have:=HTO.out;omega
     have d1:=HMC.out wr hkr i h4
     have d2:=hbr.c (k0+i) hki
     rw[turnB_new] at d2
     have d3:=hbr.f (k0+i) hki
     obtain⟨x,hx⟩:∃ x,x=E.getD (k0+i) 0:=⟨_,rfl⟩
     rw[←hx] at d2
     have hxor:=bits_xor_u8 x (V i)
     have hv8:=(V i).toNat_lt
     have HNXT:Hid (BW (wr.setCell ⟨g,k0+i,none⟩ (.int .u8 ((x.toNat ^^^ (V i).toNat:Nat):Int))) g Eb.size (turnB V k0 (i+1) E)):=by rw[←UInt8.toNat_xor];exact hbr.set hki (fun j _=>by rw[turnB_step,hx])
     have HKN:Hid (∀ v,SpK w (.cells #[.int .i64 m0,.int .i64 m1,.int .i64 m2,.int .i64 m3] 72) (wr.setCell ⟨g,k0+i,none⟩ v)):=fun v=>⟨hkr.b.setCell (Nat.le_of_lt HG.out) v,(set_blk _ _ _ _ (by have:=HG.out;omega)).trans hkr.k⟩
     have HPI:Hid _:=HMP.out i h4
     have HCH:Hid (chg V (i+1)=(chg V i||V i != 0)):=rfl
     have hvz:(((V i).toNat:Int) != 0)=(V i != 0):=by
      by_cases q:V i=0
      ·rw[q];rfl
      ·have h1:(V i).toNat≠0:=fun e=>q (UInt8.toNat_inj.1 e)
       have h2:((V i).toNat:Int)≠0:=by omega
       rw[bne_iff_ne.2 h2,bne_iff_ne.2 q]
     clear hkr hbr hx
     generalize hch:chg V i=ch at *
     generalize V i=vi at *
     generalize mask i=mi at *
     cases ch
     all_goals
      go_wp2_with (go_at_call 21;refine(HPI.out _).mono ?_;rintro e w6 ⟨rfl,hw6⟩;obtain rfl:=hw6.symm)
      go_roundw
      case rel=>exact⟨i+1,by rw[HCH.out];simp,by go_num,by omega,by omega,HKN.out _,HNXT.out⟩
      case measure=>simp[intOf]<;>omega
    ·have HII:Hid (i=4∨k0+i=Eb.size):=by show _∨_;omega
     obtain⟨L,hL⟩:∃ L,L=trn V k0 i E:=⟨_,rfl⟩
     have hLl:L.length=Eb.size:=by rw[hL,trn_len];exact HSZ.out.symm
     have hcb:(convert 73 9 (.slice (some ⟨g,0,none⟩) Eb.size cap)).run Tryz.prog wr=.ok (.string (ba L)) wr:=by
      rw[←hLl]
      rw[←hLl] at hbr
      exact bw_text hbr (fun j hj=>by
       have hj':j<E.length:=by rw[←HSZ.out,←hLl];exact hj
       rw[turnB_at V k0 i hj']
       simp only[hL])
     obtain⟨LB,hLB⟩:∃ LB,LB=ba L:=⟨_,rfl⟩
     rw[←hLB] at hcb
     have hEl:=HSZ.out
     have hto:=HTO.out
     have HLZ:Hid (∀ W,Calls Tryz.prog 35 #[.string LB] W fun e w'=>∃ q,e=.returned (.tuple #[.pointer q,.int .i64 (if chg V i then 6 else 0)])∧(chg V i=true→q=none)∧(chg V i=false→∃ m,q=some ⟨m,0,none⟩)∧Below W.heap.size W w'):=fun W=>by
      rw[hLB]
      have hl:L.length≤maxLen:=by unfold maxLen;omega
      cases hch:chg V i with
      |true=>
       have:=load_none W L hl (by
        rw[hL,HE.out]
        rw[HE.out] at hEl
        refine load_trn tabular_is HI.out (by omega) big hi4 (by omega) (fun q=>?_) (chg_yes hch)
        omega)
       refine this.mono ?_
       rintro e w' ⟨h1,h2⟩
       exact⟨none,by simpa using h1,fun _=>rfl,(fun h=>by cases h),h2⟩
      |false=>
       have:=load_some W L hl tb (by
        rw[hL,trn_same (chg_no hch),HE.out]
        exact load_self tabular_is HI.out (by omega) big)
       refine this.mono ?_
       rintro e w' ⟨m,c,h1,-,-,h2⟩
       exact⟨some ⟨m,0,none⟩,by simpa using h1,(fun h=>by cases h),fun _=>⟨m,rfl⟩,h2⟩
     have HLS:Hid (∀ W,Calls Tryz.prog 35 #[.string (Eb.extract 0 k0)] W fun e w'=>e=.returned (.tuple #[.pointer none,.int .i64 6])∧Below W.heap.size W w'):=fun W=>by
      rw[HEB.out,ba_take]
      refine load_none W _ (by unfold maxLen;simp;omega) ?_
      rw[HE.out]
      rw[HE.out] at hEl
      exact load_cut tabular_is HI.out (by omega) big (by omega)
     have HLL:Hid (∀ W,Calls Tryz.prog 35 #[.string (Eb++⟨#[0]⟩)] W fun e w'=>e=.returned (.tuple #[.pointer none,.int .i64 6])∧Below W.heap.size W w'):=fun W=>by
      rw[HEB.out,show(⟨#[0]⟩:ByteArray)=ba [0] from rfl,ba_cat]
      refine load_none W _ (by unfold maxLen;simp;omega) ?_
      rw[HE.out]
      exact load_long tabular_is HI.out (by omega) big 0
     have a1:¬ 9223372036854775807<Eb.size+1:=by omega
     have hk0s:¬(Eb.size:Int)<k0:=by omega
     have hk0d:¬ Eb.size<k0:=by omega
     clear hbr hL hLl hLB hEl hto hkr HMC HMP HVN
     have hcond:(i=4)∨(¬ i=4∧k0+i=Eb.size):=by have:=HII.out;omega
     generalize chg V i=ch at *
     rcases hcond with h4|⟨h4,h5⟩
     all_goals
      first|(have h4I:¬(i:Int)<4:=by omega)|(have h4I:(i:Int)<4:=by omega)
      first|(have h5I:¬(k0:Int)+i<Eb.size:=by omega)|skip
      clear h4
      go_upto_region 33 with(go_at_call 35;refine(HLZ.out _).mono ?_;rintro e wf ⟨q,rfl,hq1,hq2,hbf⟩;have HKF:Hid _:=HKR.out.next hbf;have HQ1:Hid _:=hq1;have HQ2:Hid _:=hq2;clear hbf hq1 hq2)
      go_upto_region 34 with(go_at_call 35;refine(HLS.out _).mono ?_;rintro e wg ⟨rfl,hbg⟩;have HKG:Hid _:=HKF.out.next hbg;clear hbg)
      go_upto_region 35 with(go_at_call 35;refine(HLL.out _).mono ?_;rintro e wh ⟨rfl,hbh⟩;have HKH:Hid _:=HKG.out.next hbh;clear hbh)
      cases ch
      ·obtain⟨mq,rfl⟩:=HQ2.out rfl
       go_wp2
       go_ret
       exact⟨rfl,HKH.out.b⟩
      ·obtain rfl:=HQ1.out rfl
       go_wp2
       go_ret
       exact⟨rfl,HKH.out.b⟩
open Go.ChangeShapes Go.WideShapes Go.ChangeAt Go.WideMaps Go.WideElems Go.RowKit
section
variable {H:Type}{enc:TypeId×Value→H}{w:World}{fuel:Nat}{cs:List Value}{x:DataW H×List MemPlace}
theorem c3i:Tryz.prog.cellsOf 3=1:=by kernel_rfl
theorem c4i:Tryz.prog.cellsOf 72=4:=by kernel_rfl
theorem open_four (h:DataW.trod enc Tryz.prog w 0 (fun _=>true) true fuel 72 cs=some x):∃ a b c d,cs=[.int .i64 a,.int .i64 b,.int .i64 c,.int .i64 d]∧∀ z∈[a,b,c,d],-9223372036854775808≤z∧z≤9223372036854775807:=by
 obtain⟨xs,m,rfl,hx,hlen,hn,hel⟩:=DataW.trod_array Tryz.underlying72 h
 rw[c4i] at hlen
 rw[c3i] at hel
 clear h
 match xs,hn,cs,hlen with
 |[x0,x1,x2,x3],_,[c0,c1,c2,c3],_=>
  have k0:=hel 0 (by decide)
  have k1:=hel 1 (by decide)
  have k2:=hel 2 (by decide)
  have k3:=hel 3 (by decide)
  simp at k0 k1 k2 k3
  obtain⟨n0,e0,-,f0⟩:=DataW.trod_int Tryz.underlying3 k0
  obtain⟨n1,e1,-,f1⟩:=DataW.trod_int Tryz.underlying3 k1
  obtain⟨n2,e2,-,f2⟩:=DataW.trod_int Tryz.underlying3 k2
  obtain⟨n3,e3,-,f3⟩:=DataW.trod_int Tryz.underlying3 k3
  simp only[List.cons.injEq,and_true] at e0 e1 e2 e3
  subst e0;subst e1;subst e2;subst e3
  refine⟨n0,n1,n2,n3,rfl,fun z hz=>?_⟩
  simp only[List.mem_cons,List.not_mem_nil,or_false] at hz
  rcases hz with rfl|rfl|rfl|rfl
  ·exact wf_rg f0
  ·exact wf_rg f1
  ·exact wf_rg f2
  ·exact wf_rg f3
end
end Go.Proofs.YtbjabpodkaokjaaGreatDoor

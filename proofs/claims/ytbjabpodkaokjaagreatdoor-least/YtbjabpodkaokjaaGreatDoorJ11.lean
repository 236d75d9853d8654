import Derived.Test.YtbjabpodkaokjaaGreatDoorJ09
import Derived.Test.YtbjabpodkaokjaaGreatDoorJ10
import Derived.KernelRfl
set_option linter.unusedVariables false
set_option linter.unusedSimpArgs false
set_option maxHeartbeats 4000000
set_option maxRecDepth 100000
namespace Go.Proofs.YtbjabpodkaokjaaGreatDoor
open Go.RowKit
def Mch (w:World) (m:Nat) (t:Tb) (c:Nat):Prop:=∃ g,w.cell? ⟨m,0,none⟩=some (.pointer (some ⟨g,0,none⟩))∧AuIn w g t∧TbOk t c
theorem Mch.below {w w':World}{m:Nat}{t:Tb}{c:Nat} (h:Mch w m t c) (hb:Below w.heap.size w w'):Mch w' m t c:=by
 obtain⟨g,h1,h2,h3⟩:=h
 exact⟨g,cell_below hb h1,h2.below hb,h3⟩
theorem Mch.new {w:World}{g:Nat}{t:Tb}{c:Nat} (h:AuIn w g t) (hok:TbOk t c):Mch (w.alloc (.cells #[.pointer (some ⟨g,0,none⟩)] 97)) w.heap.size t c:=
 ⟨g,by simp[go_sem],h.below ((Below.refl _ _).alloc (Nat.le_refl _) _),hok⟩
theorem longest_any (w:World) (m:Nat) (t:Tb) (c:Nat) (h:Mch w m t c) (tx:List UInt8) (htx:tx.length≤maxLen) :
  Calls Tryz.prog 56 #[.pointer (some ⟨m,0,none⟩),.string (ba tx)] w fun e w'=>e=.returned (.tuple #[.int .i64 (lastI (endsL t tx)),.int .i64 0])∧Below w.heap.size w w':=by
 obtain⟨g,h1,h2,h3⟩:=h
 have hl:=last_any w g t c h2 h3 tx htx
 clear h2 h3 htx
 go_enter Tryz.func56,Tryz.ntmps56
 go_wp2_with (go_at_call 97;refine hl.mono ?_;rintro e w1 ⟨rfl,hb⟩)
 go_ret2
 exact⟨rfl,hb⟩
theorem shortest_any (w:World) (m:Nat) (t:Tb) (c:Nat) (h:Mch w m t c) (tx:List UInt8) (htx:tx.length≤maxLen) :
  Calls Tryz.prog 55 #[.pointer (some ⟨m,0,none⟩),.string (ba tx)] w fun e w'=>e=.returned (.tuple #[.int .i64 (firstI (endsL t tx)),.int .i64 0])∧Below w.heap.size w w':=by
 obtain⟨g,h1,h2,h3⟩:=h
 have hl:=first_any w g t c h2 h3 tx htx
 clear h2 h3 htx
 go_enter Tryz.func55,Tryz.ntmps55
 go_wp2_with (go_at_call 70;refine hl.mono ?_;rintro e w1 ⟨rfl,hb⟩)
 go_ret2
 exact⟨rfl,hb⟩
theorem firstI_ge (l:List Nat):decide (0≤firstI l)=!l.isEmpty:=by
 cases l<;>simp[firstI]
theorem ismatch_any (w:World) (m:Nat) (t:Tb) (c:Nat) (h:Mch w m t c) (tx:List UInt8) (htx:tx.length≤maxLen) :
  Calls Tryz.prog 39 #[.pointer (some ⟨m,0,none⟩),.string (ba tx)] w fun e w'=>e=.returned (.tuple #[.bool (!(endsL t tx).isEmpty),.int .i64 0])∧Below w.heap.size w w':=by
 obtain⟨g,h1,h2,h3⟩:=h
 have hl:=first_any w g t c h2 h3 tx htx
 have hq:=firstI_ge (endsL t tx)
 generalize firstI (endsL t tx)=z at hl hq
 have HQ:Hid (decide (0≤z)=!(endsL t tx).isEmpty):=hq
 clear h2 h3 htx hq
 go_enter Tryz.func39,Tryz.ntmps39
 go_wp2_with (go_at_call 70;refine hl.mono ?_;rintro e w1 ⟨rfl,hb⟩)
 go_ret2
 rw[←HQ.out]
 exact⟨rfl,hb⟩
theorem read_bad (w:World) (b:List UInt8) (hb:b.length≤maxLen) (hn:∀ t k g,rdT b=some (t,k,g)→enc t k g≠b) :
  Calls Tryz.prog 60 #[.string (ba b)] w fun e w'=>e=.returned (.tuple #[tv0,.bool false])∧Below w.heap.size w w':=by
 cases h:rdT b with
 |none=>exact read_none w b hb h
 |some x=>
  obtain⟨t,k,g⟩:=x
  refine(read_t w b hb t k g h).mono ?_
  rintro e w' ⟨⟨he,_⟩|⟨_,rfl⟩,hbl⟩
  ·exact absurd he (hn t k g h)
  ·exact⟨rfl,hbl⟩
theorem TabIn.shapes {w:World}{t:Tb}{va vn:Value} (h:TabIn w t va vn):∃ a c a2 n2 c2,va=.slice a t.acc.length c∧vn=.slice a2 n2 c2:=by
 obtain⟨a,c,rfl⟩:=h.acc.form
 obtain⟨us,_,hu,_⟩:=h.next
 obtain⟨a2,c2,rfl⟩:=hu.form
 exact⟨_,_,_,_,_,rfl,rfl⟩
theorem belowQ {B:Nat}{w w':World} (h:Below B w w') (n:Nat):Below B w (w'.drewN n):=⟨h.os,h.tape,h.output,h.size,h.block⟩
def pkN (c:Int) (n:Nat):Nat:=((if c<0 then -(c+1) else c)%n).toNat
theorem pkN_lt (c:Int) (n:Nat) (h:0<n):pkN c n<n:=by
 unfold pkN
 have:=Int.emod_lt_of_pos (if c<0 then -(c+1) else c) (b:=n) (by omega)
 have:=Int.emod_nonneg (if c<0 then -(c+1) else c) (b:=n) (by omega)
 omega
theorem kpick_any (w:World) (c:Int) (n:Nat) (h1:-9223372036854775808≤c) (h2:c≤9223372036854775807) (hn:0<n) (hn2:n≤9223372036854775807) :
  Calls Tryz.prog 21 #[.int .i64 c,.int .i64 n] w fun e w'=>e=.returned (.int .i64 (pkN c n))∧w'=w:=by
 have hz:((n:Int)==0)=false:=by simp;omega
 by_cases h0:c<0
 ·go_enter Tryz.func21,Tryz.ntmps21
  go_wp2
  go_ret
  have e:-((c+1).tmod (n:Int))=(pkN c n:Int):=by
   unfold pkN
   rw[if_pos h0,←Int.neg_tmod,Int.tmod_eq_emod_of_nonneg (by omega),Int.toNat_of_nonneg (Int.emod_nonneg _ (by omega))]
  rw[←e]
  exact⟨rfl,rfl⟩
 ·go_enter Tryz.func21,Tryz.ntmps21
  go_wp2
  go_ret
  have e:c%(n:Int)=(pkN c n:Int):=by
   unfold pkN
   rw[if_neg (by omega),Int.toNat_of_nonneg (Int.emod_nonneg _ (by omega))]
  rw[←e]
  exact⟨rfl,rfl⟩
end Go.Proofs.YtbjabpodkaokjaaGreatDoor

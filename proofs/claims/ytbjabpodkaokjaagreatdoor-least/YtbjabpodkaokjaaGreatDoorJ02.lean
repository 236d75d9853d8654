import Derived.WalkKit
import Derived.Deep.AppendLies
import Derived.Laws.BitsLemmas
import Derived.Laws.Bits64
set_option linter.unusedVariables false
set_option linter.unusedSimpArgs false
set_option maxHeartbeats 4000000
set_option maxRecDepth 100000
namespace Go.Proofs.YtbjabpodkaokjaaGreatDoor
structure Tb where
 front:Bool
 back:Bool
 start:Int
 cls:List UInt8
 acc:List Bool
 next:List (List Int)
def pr (big:Bool) (n:Nat):List UInt8:=if big then[UInt8.ofNat (n / 256),UInt8.ofNat n] else[UInt8.ofNat n,UInt8.ofNat (n / 256)]
def bt (b:Bool):Nat:=if b then 1 else 0
def rdS:List UInt8→Nat×List UInt8
 |[]=>(0,[])
 |c::t=>(c.toNat,t)
def rdP (big:Bool) (l:List UInt8):Nat×List UInt8:=
 (if big then(rdS (rdS l).2).1+256*(rdS l).1 else(rdS l).1+256*(rdS (rdS l).2).1,(rdS (rdS l).2).2)
theorem rdS_lt (l:List UInt8):(rdS l).1<256:=by
 cases l with
 |nil=>simp[rdS]
 |cons c t=>exact c.toNat_lt
theorem rdP_lt (big:Bool) (l:List UInt8):(rdP big l).1<65536:=by
 have:=rdS_lt l
 have:=rdS_lt (rdS l).2
 cases big<;>simp[rdP]<;>omega
def rdD (big:Bool):Nat→List UInt8→List Int×List UInt8
 |0,l=>([],l)
 |n+1,l=>((rdD big n l).1++[((rdP big (rdD big n l).2).1:Int)],(rdP big (rdD big n l).2).2)
theorem rdD_len (big:Bool) (l:List UInt8):∀ n,(rdD big n l).1.length=n
 |0=>rfl
 |n+1=>by simp[rdD,rdD_len big l n]
def okZ (z:Int):Prop:=0≤z∧z<65536
theorem rdD_ok (big:Bool) (l:List UInt8):∀ n,∀ z∈(rdD big n l).1,okZ z
 |0=>by simp[rdD]
 |n+1=>by
  intro z hz
  simp only[rdD,List.mem_append,List.mem_singleton] at hz
  rcases hz with hz|rfl
  ·exact rdD_ok big l n z hz
  ·have:=rdP_lt big (rdD big n l).2
   exact⟨by omega,by omega⟩
def stepR (rs:List (Nat×Int)) (z:Int):List (Nat×Int):=
 match rs.getLast? with
 |none=>[(1,z)]
 |some (c,y)=>if y=z then rs.dropLast++[(c+1,y)] else rs++[(1,z)]
def runs (row:List Int):List (Nat×Int):=row.foldl stepR []
theorem runs_snoc (row:List Int) (z:Int):runs (row++[z])=stepR (runs row) z:=by simp[runs]
theorem stepR_len (rs:List (Nat×Int)) (z:Int):(stepR rs z).length≤rs.length+1∧rs.length≤(stepR rs z).length:=by
 unfold stepR
 split
 ·rename_i h
  have:rs=[]:=by simpa using h
  subst this
  simp
 ·rename_i c y h
  have hp:0<rs.length:=by
   rcases rs with _|⟨a,b⟩
   ·simp at h
   ·simp
  split<;>simp<;>omega
theorem runs_len (row:List Int):(runs row).length≤row.length:=by
 have:∀(l:List Int) rs,(l.foldl stepR rs).length≤rs.length+l.length:=by
  intro l
  induction l with
  |nil=>simp
  |cons z t ih=>intro rs;rw[List.foldl_cons];have:=ih (stepR rs z);have:=(stepR_len rs z).1;simp;omega
 simpa [runs] using this row []
theorem runs_mem (row:List Int):∀ r∈runs row,r.1≤row.length∧r.2∈row:=by
 have key:∀(l:List Int) rs (pre:List Int),(∀ r∈rs,r.1≤pre.length∧r.2∈pre)→∀ r∈l.foldl stepR rs,r.1≤(pre++l).length∧r.2∈pre++l:=by
  intro l
  induction l with
  |nil=>intro rs pre h r hr;simpa using h r hr
  |cons z t ih=>
   intro rs pre h r hr
   rw[List.foldl_cons] at hr
   have h2:=ih (stepR rs z) (pre++[z]) ?_ r hr
   ·simpa using h2
   ·intro q hq
    rcases List.eq_nil_or_concat rs with rfl|⟨i,⟨c,y⟩,rfl⟩
    ·simp[stepR] at hq;subst hq;simp
    ·simp only[stepR,List.concat_eq_append,List.getLast?_append,List.getLast?_singleton,Option.some_or,List.dropLast_concat] at hq
     split at hq
     ·rename_i hyz
      rcases List.mem_append.1 hq with hq|hq
      ·have:=h q (by simp[hq]);simp;exact⟨by omega,.inl this.2⟩
      ·have:=h (c,y) (by simp)
       simp at hq
       subst hq
       simp
       exact⟨by have:=this.1;simp at this;omega,.inl this.2⟩
     ·rcases List.mem_append.1 hq with hq|hq
      ·have:=h q (by simpa using hq);simp;exact⟨by omega,.inl this.2⟩
      ·simp at hq;subst hq;simp
 intro r hr
 have:=key row [] [] (by simp) r hr
 simpa using this
def rdR (big:Bool) (classes:Nat):Nat→List UInt8→List Int×List UInt8
 |0,l=>([],l)
 |j+1,l=>
  ((rdR big classes j l).1++List.replicate (min (rdP big (rdR big classes j l).2).1 (classes-(rdR big classes j l).1.length)) ((rdP big (rdP big (rdR big classes j l).2).2).1:Int),(rdP big (rdP big (rdR big classes j l).2).2).2)
theorem rdR_len (big:Bool) (classes:Nat) (l:List UInt8):∀ j,(rdR big classes j l).1.length≤classes
 |0=>by simp[rdR]
 |j+1=>by have:=rdR_len big classes l j;simp[rdR];omega
theorem rdR_ok (big:Bool) (classes:Nat) (l:List UInt8):∀ n,∀ z∈(rdR big classes n l).1,okZ z
 |0=>by simp[rdR]
 |n+1=>by
  intro z hz
  simp only[rdR,List.mem_append] at hz
  rcases hz with hz|hz
  ·exact rdR_ok big classes l n z hz
  ·have:=(List.mem_replicate.1 hz).2
   subst this
   have:=rdP_lt big (rdP big (rdR big classes n l).2).2
   exact⟨by omega,by omega⟩
def wrR (big:Bool) (r:Nat×Int):List UInt8:=pr big r.1++pr big r.2.toNat
def rdSp (big:Bool) (classes:Nat) (l:List UInt8):List Int×List UInt8:=rdR big classes (rdP big l).1 (rdP big l).2
def rdRow (kind:Nat) (big:Bool) (classes:Nat) (l:List UInt8):List Int×List UInt8:=if kind=1 then rdSp big classes l else rdD big classes l
theorem rdRow_len (kind:Nat) (big:Bool) (classes:Nat) (l:List UInt8):(rdRow kind big classes l).1.length≤classes:=by
 unfold rdRow
 split
 ·exact rdR_len _ _ _ _
 ·rw[rdD_len];exact Nat.le_refl _
theorem rdRow_ok (kind:Nat) (big:Bool) (classes:Nat) (l:List UInt8):∀ z∈(rdRow kind big classes l).1,okZ z:=by
 unfold rdRow
 split
 ·exact rdR_ok _ _ _ _
 ·exact rdD_ok _ _ _
def wrRow (kind:Nat) (big:Bool) (row:List Int):List UInt8:=if kind=1 then pr big (runs row).length++(runs row).flatMap (wrR big) else row.flatMap fun z=>pr big z.toNat
def rdA:Nat→List UInt8→List Bool×List UInt8
 |0,l=>([],l)
 |n+1,l=>((rdA n l).1++[(rdS (rdA n l).2).1==1],(rdS (rdA n l).2).2)
theorem rdA_len (l:List UInt8):∀ n,(rdA n l).1.length=n
 |0=>rfl
 |n+1=>by simp[rdA,rdA_len l n]
def wrA (b:Bool):UInt8:=UInt8.ofNat (bt b)
def rdRs (kind:Nat) (big:Bool) (classes:Nat):Nat→List UInt8→List (List Int)×List UInt8
 |0,l=>([],l)
 |n+1,l=>((rdRs kind big classes n l).1++[(rdRow kind big classes (rdRs kind big classes n l).2).1],(rdRow kind big classes (rdRs kind big classes n l).2).2)
theorem rdRs_len (kind:Nat) (big:Bool) (classes:Nat) (l:List UInt8):∀ n,(rdRs kind big classes n l).1.length=n
 |0=>rfl
 |n+1=>by simp[rdRs,rdRs_len kind big classes l n]
theorem rdRs_ok (kind:Nat) (big:Bool) (classes:Nat) (l:List UInt8):∀ n,∀ r∈(rdRs kind big classes n l).1,r.length≤classes∧∀ z∈r,okZ z
 |0=>by simp[rdRs]
 |n+1=>by
  intro r hr
  simp only[rdRs,List.mem_append,List.mem_singleton] at hr
  rcases hr with hr|rfl
  ·exact rdRs_ok kind big classes l n r hr
  ·exact⟨rdRow_len _ _ _ _,rdRow_ok _ _ _ _⟩
def mk5:List UInt8:=[72,65,83,80,1]
def hd (t:Tb) (kind:Nat) (big:Bool):List UInt8:=
 mk5++[UInt8.ofNat kind]++[UInt8.ofNat (bt t.front+2*bt t.back)]++[wrA big]++pr big t.acc.length++pr big (t.next.headD []).length++pr big t.start.toNat++t.cls
def body (t:Tb) (kind:Nat) (big:Bool):List UInt8:=hd t kind big++t.acc.map wrA++t.next.flatMap (wrRow kind big)
def rdT (b:List UInt8):Option (Tb×Nat×Bool):=
 let k:=rdS (b.drop 5)
 let e:=rdS k.2
 let g:=rdS e.2
 let big:=g.1==1
 let s:=rdP big g.2
 let c:=rdP big s.2
 let st:=rdP big c.2
 if 1<k.1∨s.1<1∨200<s.1∨256<c.1 then none
 else
  let a:=rdA s.1 (st.2.drop 256)
  let n:=rdRs k.1 big c.1 s.1 a.2
  some (⟨e.1%2==1,e.1 / 2%2==1,st.1,st.2.take 256,a.1,n.1⟩,k.1,big)
theorem alloc_old' (w:World) (o:Obj) (i:Nat) (h:i<w.heap.size):(w.alloc o).heap[i]?=w.heap[i]?:=by
 show(w.heap.push o)[i]?=_
 rw[Array.getElem?_push_lt h,Array.getElem?_eq_getElem h]
section
variable {P:Program} (w:World)
theorem run_append_str (t ty:TypeId) (base:Nat) (e:TypeId) (i:TypeInfo) (z:Value) (size bytes:Nat) (ht:P.underlying t=some (.slice e)) (hi:P.info? e=some i) (hz:i.zero=some z)
  (hsize:i.size=size) (hby:i.bytes=bytes) (hzs:z.cells.size=size) (hsz:0<size)
  (v:Value) (n:Nat) (xs:List Value) (hown:w.ownsRow base e size v n xs)
  (ad:Addr) (m c:Nat) (news:List Value) (hl:news.length=m*size) (hnews:∀ j u,news[j]?=some u→w.cell? (ad.add j)=some u) (h1:∀ u∈news,u.oneCell'=true)
  (hm:0<m) (h63:n+m≤maxLen) (hbytes:(n+m)*bytes≤140737488355328) (hbase:base≤w.heap.size) (H:Nat) (hH:w.heap.size=H) :
  ∃ g cap w',(Builtin.append_ #[t,t] ty #[v,.slice (some ad) m c]).run P w=.ok (.slice (some ⟨g,0,none⟩) (n+m) cap) w' ∧
   w'.ownsRow base e size (.slice (some ⟨g,0,none⟩) (n+m) cap) (n+m) (xs++news)∧((v.ownBlock=some g∧w.grownBy w' (some g))∨(g=H∧w.grownBy w' none))∧g<w'.heap.size:=by
 obtain⟨g,cap,w',hr,h2,h3,h4,h5⟩:=run_append_lies (P:=P) w t ty base e i z size bytes ht hi hz hsize hby hzs hsz v n xs hown ad m c news hl hnews h1 hm h63 hbytes hbase H hH
 refine⟨g,cap,w',hr,h2,?_,h5⟩
 rcases h4 with h4|h4
 ·exact .inl ⟨h4,by rw[←h4];exact h3⟩
 refine .inr ⟨h4,?_⟩
 rcases hown.2 with⟨rfl,rfl⟩|⟨g0,cap0,cur,rfl,hbg,hg,hnc,hcm,hcs,htake⟩
 ·exact h3
 by_cases hroom:n+m≤cap0
 ·exfalso
  subst hsize
  have hfit:n*i.size+news.length≤cur.size:=by rw[hl,hcs,←Nat.add_mul];exact Nat.mul_le_mul_right _ hroom
  have hr2:=run_append_room (P:=P) w t ty e i ht hi g0 n cap0 cur hg ad m c news hl hnews h1 hroom hfit
  rw[hr] at hr2
  injection hr2 with e1 e2
  injection e1 with e3
  injection e3 with e3
  injection e3 with e3
  have:=(Array.getElem?_eq_some_iff.1 hg).1
  omega
 ·subst hsize
  subst hby
  have hsmall:n+m≤9223372036854775807:=by simp only[maxLen] at h63;omega
  have hr2:=run_append_grow (P:=P) w t ty e i z ht hi hz ⟨g0,0,none⟩ n cap0 xs hown.1 (hown.cells (g:=g0) rfl) ad m c news hl hnews (by omega) (by omega) (growslice_fits (by omega) hbytes)
  rw[hr] at hr2
  injection hr2 with e1 e2
  rw[e2]
  exact⟨rfl,rfl,rfl,by simp,fun k hk _=>alloc_old' w.drew _ k hk⟩
theorem step_append_str {ops:Array Oper}{o:Oper}{a:Act}{K:Act→World→Prop}{Q:Exit→Act→World→Prop}{E:Prop} (hgd:o.guard=none) (s x:Operand) (t:TypeId)
  (ho:o.op=.call {callee:=.builtin .append,args:=#[s,x],argTypes:=#[t,t]})
  (base:Nat) (e:TypeId) (i:TypeInfo) (z:Value) (size bytes:Nat) (ht:P.underlying t=some (.slice e)) (hi:P.info? e=some i) (hz:i.zero=some z)
  (hsize:i.size=size) (hby:i.bytes=bytes) (hzs:z.cells.size=size) (hsz:0<size)
  (v:Value) (n:Nat) (xs:List Value) (hs:a.eval s=v) (hown:w.ownsRow base e size v n xs)
  (ad:Addr) (m c:Nat) (news:List Value) (hx:a.eval x=.slice (some ad) m c) (hl:news.length=m*size) (hnews:∀ j u,news[j]?=some u→w.cell? (ad.add j)=some u) (h1:∀ u∈news,u.oneCell'=true)
  (hm:0<m) (h63:n+m≤maxLen) (hbytes:(n+m)*bytes≤140737488355328) (hbase:base≤w.heap.size) (H:Nat) (hH:w.heap.size=H)
  (h:∀ g cap w',w'.ownsRow base e size (.slice (some ⟨g,0,none⟩) (n+m) cap) (n+m) (xs++news)→((v.ownBlock=some g∧w.grownBy w' (some g))∨(g=H∧w.grownBy w' none))→g<w'.heap.size→K (a.put o.dst (.slice (some ⟨g,0,none⟩) (n+m) cap)) w') :
  if Region.wanted o (yielded ops a.tmps)=true then Oper.wp P o a w K Q else E:=by
 have hw:Region.wanted o (yielded ops a.tmps)=true:=by simp[Region.wanted,hgd]
 rw[if_pos hw]
 obtain⟨g,cap,w',hr,h2,h3,h4⟩:=run_append_str (P:=P) w t o.type base e i z size bytes ht hi hz hsize hby hzs hsz v n xs hown ad m c news hl hnews h1 hm h63 hbytes hbase H hH
 unfold Oper.wp execOp
 simp only[ho,resolve,invoke,builtin,Sem.run_bind,Sem.run_pure,Result.andThen_ok,List.map_toArray,List.map_cons,List.map_nil,hs,hx,hr]
 exact h g cap w' h2 h3 h4
theorem wpList_append_str {ops:Array Oper}{rest:List Oper}{o:Oper}{a:Act}{Q:Exit→Act→World→Prop} (hgd:o.guard=none) (s x:Operand) (t:TypeId)
  (ho:o.op=.call {callee:=.builtin .append,args:=#[s,x],argTypes:=#[t,t]})
  (base:Nat) (e:TypeId) (i:TypeInfo) (z:Value) (size bytes:Nat) (ht:P.underlying t=some (.slice e)) (hi:P.info? e=some i) (hz:i.zero=some z)
  (hsize:i.size=size) (hby:i.bytes=bytes) (hzs:z.cells.size=size) (hsz:0<size)
  (v:Value) (n:Nat) (xs:List Value) (hs:a.eval s=v) (hown:w.ownsRow base e size v n xs)
  (ad:Addr) (m c:Nat) (news:List Value) (hx:a.eval x=.slice (some ad) m c) (hl:news.length=m*size) (hnews:∀ j u,news[j]?=some u→w.cell? (ad.add j)=some u) (h1:∀ u∈news,u.oneCell'=true)
  (hm:0<m) (h63:n+m≤maxLen) (hbytes:(n+m)*bytes≤140737488355328) (hbase:base≤w.heap.size) (H:Nat) (hH:w.heap.size=H)
  (h:∀ g cap w',w'.ownsRow base e size (.slice (some ⟨g,0,none⟩) (n+m) cap) (n+m) (xs++news)→((v.ownBlock=some g∧w.grownBy w' (some g))∨(g=H∧w.grownBy w' none))→g<w'.heap.size→wpList P ops Q rest (a.put o.dst (.slice (some ⟨g,0,none⟩) (n+m) cap)) w'):wpList P ops Q (o::rest) a w:=by
 refine wpList_plain hgd fun K hK=>?_
 obtain⟨g,cap,w',hr,h2,h3,h4⟩:=run_append_str (P:=P) w t o.type base e i z size bytes ht hi hz hsize hby hzs hsz v n xs hown ad m c news hl hnews h1 hm h63 hbytes hbase H hH
 unfold Oper.wp execOp
 simp only[ho,resolve,invoke,builtin,Sem.run_bind,Sem.run_pure,Result.andThen_ok,List.map_toArray,List.map_cons,List.map_nil,hs,hx,hr]
 exact hK _ _ (h g cap w' h2 h3 h4)
end
structure Off (ρ:Nat→Nat) (q lim:Nat) (w w':World):Prop where
 size:w.heap.size≤w'.heap.size
 block:∀ b,b<w.heap.size→ρ b=0→w'.heap[b]?=w.heap[b]?
 part:∀ o,o<lim→w'.cell? ⟨q,o,none⟩=w.cell? ⟨q,o,none⟩
theorem Off.refl (ρ:Nat→Nat) (q lim:Nat) (w:World):Off ρ q lim w w:=⟨Nat.le_refl _,fun _ _ _=>rfl,fun _ _=>rfl⟩
def Kp (ρ:Nat→Nat) (q lim:Nat) (w:World) (F:World→Prop):Prop:=∀ w',Off ρ q lim w w'→F w'
theorem Kp.mono {ρ:Nat→Nat}{q lim:Nat}{w:World}{F G:World→Prop} (h:Kp ρ q lim w F) (k:∀ w',F w'→G w'):Kp ρ q lim w G:=fun w' o=>k _ (h w' o)
def cStep (b k c:Nat):Nat:=if b / 2 ^ k%2=c%2 then c / 2 else c / 2 ^^^ 3988292384
def crcN (b:Nat):Nat→Nat→Nat
 |0,c=>c
 |k+1,c=>cStep b k (crcN b k c)
def crcF (c:Nat) (l:List UInt8):Nat:=l.foldl (fun c b=>crcN b.toNat 8 c) c
def crc (l:List UInt8):Nat:=4294967295-crcF 4294967295 l
theorem xor32 {a b:Nat} (ha:a<4294967296) (hb:b<4294967296):a ^^^ b<4294967296:=Nat.xor_lt_two_pow (n:=32) ha hb
theorem crcF_snoc (c:Nat) (l:List UInt8) (b:UInt8):crcF c (l++[b])=crcN b.toNat 8 (crcF c l):=by simp[crcF]
theorem crc_lt (l:List UInt8):crc l<4294967296:=by unfold crc;omega
def pStep (r:Nat):Nat:=r / 2 ^^^ 3988292384*(r%2)
def pN (x:Nat):Nat→Nat
 |0=>x
 |k+1=>pStep (pN x k)
theorem pStep_lt (r:Nat) (h:r<4294967296):pStep r<4294967296:=by
 unfold pStep
 refine xor32 (by omega) ?_
 rcases Nat.mod_two_eq_zero_or_one r with e|e<;>rw[e]<;>omega
theorem pStep_xor (x y:Nat):pStep (x ^^^ y)=(if y%2=x%2 then x / 2 else x / 2 ^^^ 3988292384) ^^^ y / 2:=by
 have h1:(x ^^^ y) / 2=x / 2 ^^^ y / 2:=by have:=Nat.xor_div_two_pow (a:=x) (b:=y) (n:=1);simpa using this
 have h2:(x ^^^ y)%2=(x%2) ^^^ (y%2):=by have:=Nat.xor_mod_two_pow (a:=x) (b:=y) (n:=1);simpa using this
 unfold pStep
 rw[h1,h2]
 rcases Nat.mod_two_eq_zero_or_one x with e|e<;>rcases Nat.mod_two_eq_zero_or_one y with f|f<;>rw[e,f]<;>simp
 ·rw[Nat.xor_assoc,Nat.xor_comm (y / 2),←Nat.xor_assoc]
 ·rw[Nat.xor_assoc,Nat.xor_comm (y / 2),←Nat.xor_assoc]
theorem pN_crcN (b c:Nat):∀ k,pN (c ^^^ b) k=crcN b k c ^^^ (b / 2 ^ k)
 |0=>by simp[pN,crcN]
 |k+1=>by
  rw[pN,pN_crcN b c k,pStep_xor,crcN,cStep,Nat.div_div_eq_div_mul,←Nat.pow_succ]
theorem pN_byte (b:UInt8) (c:Nat):pN (c ^^^ b.toNat) 8=crcN b.toNat 8 c:=by
 rw[pN_crcN,Nat.div_eq_of_lt (by have:=b.toNat_lt;omega)];simp
theorem bits_xor_u32 (a b:Nat) (ha:a<4294967296) (hb:b<4294967296):bits .xor .u32 (a:Int) (b:Int)=((a ^^^ b:Nat):Int):=by
 have hx:=xor32 ha hb
 have h1:(BitVec.ofInt 32 (a:Int)).toNat=a:=by
  rw[BitVec.ofInt_natCast,BitVec.toNat_ofNat];exact Nat.mod_eq_of_lt (by omega)
 have h2:(BitVec.ofInt 32 (b:Int)).toNat=b:=by
  rw[BitVec.ofInt_natCast,BitVec.toNat_ofNat];exact Nat.mod_eq_of_lt (by omega)
 show IntKind.u32.wrap ((BitVec.ofInt 32 (a:Int) ^^^ BitVec.ofInt 32 (b:Int)).toNat:Int)=_
 rw[BitVec.toNat_xor,h1,h2,IntKind.wrap_u32]
 omega
theorem not32 (n:Nat) (h:n<4294967296):4294967295 ^^^ n=4294967295-n:=by
 have h1:=BitVec.toNat_not (x:=BitVec.ofNat 32 n)
 rw[BitVec.not_def,BitVec.toNat_xor,BitVec.toNat_allOnes,BitVec.toNat_ofNat,Nat.mod_eq_of_lt (show n<2 ^ 32 from h)] at h1
 exact h1
def num4 (big:Bool) (n:Nat):List UInt8:=if big then[UInt8.ofNat (n / 16777216),UInt8.ofNat (n / 65536),UInt8.ofNat (n / 256),UInt8.ofNat n] else[UInt8.ofNat n,UInt8.ofNat (n / 256),UInt8.ofNat (n / 65536),UInt8.ofNat (n / 16777216)]
def enc (t:Tb) (kind:Nat) (big:Bool):List UInt8:=body t kind big++num4 big (crc (body t kind big))
end Go.Proofs.YtbjabpodkaokjaaGreatDoor

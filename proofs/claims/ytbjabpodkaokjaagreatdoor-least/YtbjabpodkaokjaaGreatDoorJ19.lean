import Derived.Test.YtbjabpodkaokjaaGreatDoorJ18
import Derived.Lib.BufferRead
set_option linter.unusedVariables false
set_option linter.unusedSimpArgs false
set_option maxHeartbeats 4000000
set_option maxRecDepth 100000
namespace Go.Proofs.YtbjabpodkaokjaaGreatDoor.Sx
open Go.RowKit
theorem Out.app {base:Nat}{w wx w':World}{v v':Value}{bs:List UInt8}{c:UInt8}{o:Obj} (hO:Out base w wx v bs) (hb:base≤wx.heap.size) (hgr:(wx.alloc o).grownBy w' v.ownBlock)
  (hown:w'.ownsRow base 5 1 v' (bs.length+1) (bs.map bv++[bv c])):Out base w w' v' (bs++[c]):=
 (hO.alloc hb o).grown (by simp;omega) hgr (by simpa [Buf] using hown)
theorem Out.sz {base:Nat}{w wx:World}{v:Value}{bs:List UInt8} (h:Out base w wx v bs) (hb:base≤w.heap.size):base≤wx.heap.size:=Nat.le_trans hb h.bl.size
theorem Keeps.cells {w w':World}{g:Nat}{cs:Array Value}{T:TypeId}{fr:Nat×Nat} (h:Keeps w w') (hg:w.heap[g]?=some (.cells cs T fr)) (hT:T≠5):w'.heap[g]?=some (.cells cs T fr):=by
 have hlt:g<w.heap.size:=by
  rcases Nat.lt_or_ge g w.heap.size with q|q
  ·exact q
  ·simp[Array.getElem?_eq_none q] at hg
 exact(h.block g hlt (fun cur e=>by rw[hg] at e;injection e with e;injection e with _ e _;exact hT e)).trans hg
theorem cell_of {w:World}{g o:Nat}{cs:Array Value}{T:TypeId}{fr:Nat×Nat} (h:w.heap[g]?=some (.cells cs T fr)):w.cell? ⟨g,o,none⟩=cs[o]?:=by simp[World.cell?,h]
theorem tCount_len (c:Cnt):(tCount c).length≤20:=by
 unfold tCount
 have:=tDec_len c.least.toNat
 have:=tDec_len c.most.toNat
 split
 ·split<;>simp<;>omega
 ·simp
theorem RowIn.cell {w:World}{S:Nat→Prop}{e:TypeId}{size:Nat}{g:Nat}{n cap:Nat}{xs:List Value} (h:RowIn w S e size (.slice (some ⟨g,0,none⟩) n cap) n xs) (j:Nat) (hj:j<n*size):w.cell? ⟨g,j,none⟩=xs[j]?:=by
 obtain⟨h1,h2⟩:=h
 rcases h2 with⟨h2,_⟩|⟨g',cap',cur,hv,hS,hh,hn,hm,hs,ht⟩
 ·simp at h2
 ·injection hv with hv _ _
  injection hv with hv;injection hv with hv _ _
  subst hv
  rw[cell_of hh,←ht,List.getElem?_take]
  simp[hj]
theorem RowIn.form {w:World}{S:Nat→Prop}{e:TypeId}{size:Nat}{v:Value}{n:Nat}{xs:List Value} (h:RowIn w S e size v n xs) (hn:0<n):∃ g cap,v=.slice (some ⟨g,0,none⟩) n cap∧S g∧n≤cap∧cap≤maxLen:=by
 obtain⟨h1,h2⟩:=h
 rcases h2 with⟨_,h2⟩|⟨g',cap',cur,hv,hS,hh,hn',hm,hs,ht⟩
 ·omega
 ·exact⟨g',cap',hv,hS,hn',hm⟩
theorem flat_len (l:List Cnt):(l.flatMap tCount).length≤20*l.length:=by
 induction l with
 |nil=>simp
 |cons c l ih=>have:=tCount_len c;rw[List.flatMap_cons,List.length_append,List.length_cons];omega
theorem flat_snoc (cs:List Cnt) (k:Nat) (h:k<cs.length):(cs.take (k+1)).flatMap tCount=(cs.take k).flatMap tCount++tCount cs[k]:=by
 rw[List.take_succ_eq_append_getElem h,List.flatMap_append];simp
structure SixV where
 q0:Option Addr
 q1:Nat
 q2:Nat
 y0:Nat
 y1:Nat
 y2:Nat
 y3:Nat
 r0:Option Addr
 r1:Nat
 r2:Nat
def SixV.cells (s:SixV):List Value:=[.slice s.q0 s.q1 s.q2,.int .u64 s.y0,.int .u64 s.y1,.int .u64 s.y2,.int .u64 s.y3,.slice s.r0 s.r1 s.r2]
abbrev SixV.val (s:SixV):Value:=.agg #[.slice s.q0 s.q1 s.q2,.int .u64 s.y0,.int .u64 s.y1,.int .u64 s.y2,.int .u64 s.y3,.slice s.r0 s.r1 s.r2]
theorem six_at (vs:List SixV) (k:Nat) (hk:k<vs.length):∀ j,j<6→((vs.map SixV.cells).flatten)[k*6+j]?=(vs[k].cells)[j]?:=by
 induction vs generalizing k with
 |nil=>simp at hk
 |cons c cs ih=>
  intro j hj
  cases k with
  |zero=>
   simp only[List.map_cons,List.flatten_cons,Nat.zero_mul,Nat.zero_add,List.getElem_cons_zero]
   rw[List.getElem?_append_left (by simp[SixV.cells];omega)]
  |succ k=>
   have:=ih k (by simpa using hk) j hj
   have e1:(k+1)*6+j=(k*6+j)+6:=by omega
   simp only[e1,List.map_cons,List.flatten_cons,List.getElem_cons_succ]
   rw[List.getElem?_append_right (by simp[SixV.cells])]
   have e2:k*6+j+6-c.cells.length=k*6+j:=by simp[SixV.cells]
   rw[e2];exact this
theorem six_of {w:World}{S:Nat→Prop}{p:Prt}{cells:List Value} (h:RepP w S p cells):∃ s:SixV,cells=s.cells:=by
 obtain⟨g,B,cs⟩:=p
 simp only[RepP] at h
 obtain⟨gv,x0,x1,x2,x3,cv,rfl,⟨vs,hr,_⟩,_,hc⟩:=h
 have hg:∃ a n c,gv=.slice a n c:=by
  obtain⟨_,hr⟩:=hr
  rcases hr with⟨rfl,_⟩|⟨g,cap,cur,rfl,_⟩
  ·exact⟨_,_,_,rfl⟩
  ·exact⟨_,_,_,rfl⟩
 have hv:∃ a n c,cv=.slice a n c:=by
  obtain⟨_,hr⟩:=hc
  rcases hr with⟨rfl,_⟩|⟨g,cap,cur,rfl,_⟩
  ·exact⟨_,_,_,rfl⟩
  ·exact⟨_,_,_,rfl⟩
 obtain⟨a,n,c,rfl⟩:=hg
 obtain⟨a',n',c',rfl⟩:=hv
 exact⟨⟨a,n,c,x0,x1,x2,x3,a',n',c'⟩,rfl⟩
theorem six_list {w:World}{S:Nat→Prop}:∀(ps:List Prt) (css:List (List Value)),RepPs w S ps css→∃ vs:List SixV,css=vs.map SixV.cells∧vs.length=ps.length∧∀(k:Nat) (h1:k<vs.length) (h2:k<ps.length),RepP w S ps[k] vs[k].cells
 |[],css,h=>by
  simp only[RepPs] at h;subst h
  exact⟨[],rfl,rfl,fun k h1=>by simp at h1⟩
 |p::ps,css,h=>by
  simp only[RepPs] at h
  obtain⟨c,cs',rfl,h1,h2⟩:=h
  obtain⟨s,rfl⟩:=six_of h1
  obtain⟨vs,rfl,hl,hv⟩:=six_list ps cs' h2
  refine⟨s::vs,rfl,by simp[hl],fun k k1 k2=>?_⟩
  cases k with
  |zero=>exact h1
  |succ k=>exact hv k (by simpa using k1) (by simpa using k2)
theorem slice_list {w:World}{S:Nat→Prop}:∀(cs:List (List Prt)) (vs:List Value),RepVs w S cs vs→∃ xs:List (Option Addr×Nat×Nat),vs=xs.map (fun x=>Value.slice x.1 x.2.1 x.2.2)∧xs.length=cs.length∧∀(k:Nat) (h1:k<xs.length) (h2:k<cs.length),RepC w S cs[k] (.slice xs[k].1 xs[k].2.1 xs[k].2.2)
 |[],vs,h=>by
  simp only[RepVs] at h;subst h
  exact⟨[],rfl,rfl,fun k h1=>by simp at h1⟩
 |c::cs,vs,h=>by
  simp only[RepVs] at h
  obtain⟨v,vs',rfl,h1,h2⟩:=h
  have hc:RepC w S c v:=h1
  have hf:∃ a n q,v=.slice a n q:=by
   obtain⟨css,⟨_,hr⟩,_⟩:=h1
   rcases hr with⟨rfl,_⟩|⟨g,cap,cur,rfl,_⟩
   ·exact⟨_,_,_,rfl⟩
   ·exact⟨_,_,_,rfl⟩
  obtain⟨a,n,q,rfl⟩:=hf
  obtain⟨xs,rfl,hl,hv⟩:=slice_list cs vs' h2
  refine⟨(a,n,q)::xs,rfl,by simp[hl],fun k k1 k2=>?_⟩
  cases k with
  |zero=>exact hc
  |succ k=>exact hv k (by simpa using k1) (by simpa using k2)
abbrev ChoicesTxt (base:Nat) (w:World) (val:Value) (T:List UInt8):Prop:=
 ∀ w':World,Below base w w'→∀(v:Value) (bs:List UInt8),Buf w' base v bs→base≤w'.heap.size→bs.length+T.length≤850000→Calls Tryz.prog 98 #[v,val] w' fun e w''=>∃ v',e=.returned v'∧Out base w' w'' v' (bs++T)
theorem buf_nil (w:World) (base:Nat):Buf w base (.slice none 0 0) []:=by
 exact⟨rfl,Or.inl ⟨rfl,rfl⟩⟩
abbrev ptnObj (f b:Bool) (a:Option Addr) (n c:Nat):Obj:=.cells #[.bool f,.bool b,.slice a n c] 87
theorem ptn_cells {base:Nat}{w w':World}{f b:Bool}{a:Option Addr}{n c g:Nat}{v:Value}{bs:List UInt8} (h:w.heap[g]?=some (ptnObj f b a n c)) (hO:Out base w w' v bs) :
  w'.heap[g]?=some (ptnObj f b a n c):=by
 have hlt:g<w.heap.size:=by
  rcases Nat.lt_or_ge g w.heap.size with h1|h1
  ·exact h1
  ·rw[Array.getElem?_eq_none h1] at h;simp at h
 rw[hO.kp.block g hlt (by intro cur;rw[h];simp),h]
theorem underlyingStr:Tryz.prog.underlying 9=some .string:=by kernel_rfl
theorem underlyingByte:Tryz.prog.underlying 5=some (.int .u8):=by kernel_rfl
theorem conv_buf {w:World}{base:Nat}{v:Value}{bs:List UInt8} (h:Buf w base v bs):(convert 73 9 v).run Tryz.prog w=.ok (.string ⟨bs.toArray⟩) w:=by
 obtain⟨hl,hr⟩:=h
 rcases hr with⟨rfl,hn⟩|⟨k,cap,cur,rfl,h1,hh,h2⟩
 ·have:bs=[]:=by
   have:=hn
   simp at this
   exact List.length_eq_zero_iff.1 (by simpa using this)
  subst this
  exact Lib.run_convert_nil_bytes w _ _ _ 0 Tryz.underlying73 underlyingByte underlyingStr
 ·refine run_convert_bytes_back w _ _ _ _ cap bs Tryz.underlying73 underlyingByte underlyingStr ?_
  refine Lib.bytes_of_row hh ?_
  have:=h2.2.2.2
  rw[Nat.mul_one] at this
  rw[this]
  simp[Lib.byteCells]
theorem text_ff (w:World) (a:Option Addr) (n c:Nat) (T:List UInt8) (hX:ChoicesTxt w.heap.size w (.slice a n c) T) (hlen:T.length≤849000) :
  Calls Tryz.prog 57 #[.agg #[.bool false,.bool false,.slice a n c]] w fun e w'=>e=.returned (.string ⟨(T).toArray⟩)∧Below w.heap.size w w':=by
 obtain⟨i0,hi0,hz0,hz1,hz2⟩:=info_parts Tryz.infoU8
 obtain⟨base,hbase⟩:∃ b,b=w.heap.size:=⟨_,rfl⟩
 have hb:base≤w.heap.size:=by omega
 have HX:Hid (ChoicesTxt base w (.slice a n c) T):=hbase▸hX
 have HB:Hid (base=w.heap.size):=hbase
 clear hX hbase
 have HO:Hid (Out base w (w.alloc (ptnObj false false a n c)) (.slice none 0 0) []):=(Out.start (buf_nil _ _)).alloc hb _
 have HC:Hid ((w.alloc (ptnObj false false a n c)).heap[w.heap.size]?=some (ptnObj false false a n c)):=heap_alloc_new _ _
 have hlT:T.length+1≤850000:=by simp;omega
 go_enter Tryz.func57,Tryz.ntmps57
 have HO1:Hid (Out base w (w.alloc (ptnObj false false a n c)) (.slice none 0 0) []):=HO.out
 have HC1:Hid ((w.alloc (ptnObj false false a n c)).heap[w.heap.size]?=some (ptnObj false false a n c)):=HC.out
 have hb1:base≤(w.alloc (ptnObj false false a n c)).heap.size:=HO1.out.sz hb
 go_wp2_with (go_at_call 98;refine(HX.out _ HO1.out.bl _ [] HO1.out.buf hb1 (by simp;omega)).mono ?_;rintro e w3 ⟨v3,rfl,hO3⟩;have HO3:Hid (Out base w w3 v3 T):=HO1.out.trans hO3;have hc:=ptn_cells (g:=w.heap.size) HC1.out hO3;have c1:w3.cell? ⟨w.heap.size,1,none⟩=some (.bool false):=(by simp[World.cell?,hc]);clear hO3 hc;have hb3:base≤w3.heap.size:=HO3.out.sz hb;have hcv:=conv_buf HO3.out.buf)
 go_ret
 exact⟨by simp,HB.out▸HO3.out.bl⟩
theorem text_ft (w:World) (a:Option Addr) (n c:Nat) (T:List UInt8) (hX:ChoicesTxt w.heap.size w (.slice a n c) T) (hlen:T.length≤849000) :
  Calls Tryz.prog 57 #[.agg #[.bool false,.bool true,.slice a n c]] w fun e w'=>e=.returned (.string ⟨(T++[36]).toArray⟩)∧Below w.heap.size w w':=by
 obtain⟨i0,hi0,hz0,hz1,hz2⟩:=info_parts Tryz.infoU8
 obtain⟨base,hbase⟩:∃ b,b=w.heap.size:=⟨_,rfl⟩
 have hb:base≤w.heap.size:=by omega
 have HX:Hid (ChoicesTxt base w (.slice a n c) T):=hbase▸hX
 have HB:Hid (base=w.heap.size):=hbase
 clear hX hbase
 have HO:Hid (Out base w (w.alloc (ptnObj false true a n c)) (.slice none 0 0) []):=(Out.start (buf_nil _ _)).alloc hb _
 have HC:Hid ((w.alloc (ptnObj false true a n c)).heap[w.heap.size]?=some (ptnObj false true a n c)):=heap_alloc_new _ _
 have hlT:T.length+1≤850000:=by simp;omega
 go_enter Tryz.func57,Tryz.ntmps57
 have HO1:Hid (Out base w (w.alloc (ptnObj false true a n c)) (.slice none 0 0) []):=HO.out
 have HC1:Hid ((w.alloc (ptnObj false true a n c)).heap[w.heap.size]?=some (ptnObj false true a n c)):=HC.out
 have hb1:base≤(w.alloc (ptnObj false true a n c)).heap.size:=HO1.out.sz hb
 go_wp2_with (first|((at_builtin;refine wpList_append_own_at _ rfl (.tmp 15) (.tmp 16) 73 rfl base 5 i0 (.int .u8 0) 1 1 Tryz.underlying73 hi0 hz0 hz1 hz2 rfl (by decide) v3 (T).length ((T).map bv) rfl (HO3.out.buf.alloc _) ⟨w3.heap.size,0,none⟩ 1 1 [bv 36] rfl rfl (by intro j u hj;cases j with|zero=>(simp at hj;subst hj;simp[Addr.add,go_sem])|succ j=>simp at hj) (bv_one [36]) (by unfold maxLen;omega) (by omega) (by simp;omega) ?_))|(go_at_call 98;refine(HX.out _ HO1.out.bl _ [] HO1.out.buf hb1 (by simp;omega)).mono ?_;rintro e w3 ⟨v3,rfl,hO3⟩;have HO3:Hid (Out base w w3 v3 T):=HO1.out.trans hO3;have hc:=ptn_cells (g:=w.heap.size) HC1.out hO3;have c1:w3.cell? ⟨w.heap.size,1,none⟩=some (.bool true):=(by simp[World.cell?,hc]);clear hO3 hc;have hb3:base≤w3.heap.size:=HO3.out.sz hb))
 intro v5 w5 hown5 hgr5 _ hob5
 have HO5:Hid (Out base w w5 v5 (T++[36])):=HO3.out.app hb3 hgr5 hown5
 have hcv:=conv_buf HO5.out.buf
 clear hown5 hgr5 hob5
 go_wp2
 go_ret
 exact⟨by simp,HB.out▸HO5.out.bl⟩
theorem text_tf (w:World) (a:Option Addr) (n c:Nat) (T:List UInt8) (hX:ChoicesTxt w.heap.size w (.slice a n c) T) (hlen:T.length≤849000) :
  Calls Tryz.prog 57 #[.agg #[.bool true,.bool false,.slice a n c]] w fun e w'=>e=.returned (.string ⟨([94]++T).toArray⟩)∧Below w.heap.size w w':=by
 obtain⟨i0,hi0,hz0,hz1,hz2⟩:=info_parts Tryz.infoU8
 obtain⟨base,hbase⟩:∃ b,b=w.heap.size:=⟨_,rfl⟩
 have hb:base≤w.heap.size:=by omega
 have HX:Hid (ChoicesTxt base w (.slice a n c) T):=hbase▸hX
 have HB:Hid (base=w.heap.size):=hbase
 clear hX hbase
 have HO:Hid (Out base w (w.alloc (ptnObj true false a n c)) (.slice none 0 0) []):=(Out.start (buf_nil _ _)).alloc hb _
 have HC:Hid ((w.alloc (ptnObj true false a n c)).heap[w.heap.size]?=some (ptnObj true false a n c)):=heap_alloc_new _ _
 have hlT:([94]++T).length+1≤850000:=by simp;omega
 go_enter Tryz.func57,Tryz.ntmps57
 have hnil:([]:List UInt8).length=0:=List.length_nil
 go_wp2_with (at_builtin;refine wpList_append_own_at _ rfl (.tmp 6) (.tmp 7) 73 rfl base 5 i0 (.int .u8 0) 1 1 Tryz.underlying73 hi0 hz0 hz1 hz2 rfl (by decide) (Value.slice none 0 0) (([]:List UInt8)).length ((([]:List UInt8)).map bv) rfl (HO.out.buf.alloc _) ⟨w.heap.size+1,0,none⟩ 1 1 [bv 94] rfl rfl (by intro j u hj;cases j with|zero=>(simp at hj;subst hj;simp[Addr.add,go_sem])|succ j=>simp at hj) (bv_one [94]) (by unfold maxLen;omega) (by omega) (by simp;omega) ?_)
 intro v1 w1 hown1 hgr1 _ hob1
 have hO0:Out base (w.alloc (ptnObj true false a n c)) w1 v1 [94]:=(Out.start (buf_nil _ base)).app (by simp;omega) hgr1 hown1
 have HO1:Hid (Out base w w1 v1 [94]):=HO.out.trans hO0
 have hc:=ptn_cells (g:=w.heap.size) HC.out hO0
 have c2:w1.cell? ⟨w.heap.size,2,none⟩=some (.slice a n c):=by simp[World.cell?,hc]
 have HC1:Hid (w1.heap[w.heap.size]?=some (ptnObj true false a n c)):=hc
 have hb1:base≤w1.heap.size:=HO1.out.sz hb
 clear hown1 hgr1 hob1 hO0 hc hnil
 go_wp2_with (go_at_call 98;refine(HX.out _ HO1.out.bl _ [94] HO1.out.buf hb1 (by simp;omega)).mono ?_;rintro e w3 ⟨v3,rfl,hO3⟩;have HO3:Hid (Out base w w3 v3 ([94]++T)):=HO1.out.trans hO3;have hc:=ptn_cells (g:=w.heap.size) HC1.out hO3;have c1:w3.cell? ⟨w.heap.size,1,none⟩=some (.bool false):=(by simp[World.cell?,hc]);clear hO3 hc;have hb3:base≤w3.heap.size:=HO3.out.sz hb;have hcv:=conv_buf HO3.out.buf)
 go_ret
 exact⟨by simp,HB.out▸HO3.out.bl⟩
theorem text_tt (w:World) (a:Option Addr) (n c:Nat) (T:List UInt8) (hX:ChoicesTxt w.heap.size w (.slice a n c) T) (hlen:T.length≤849000) :
  Calls Tryz.prog 57 #[.agg #[.bool true,.bool true,.slice a n c]] w fun e w'=>e=.returned (.string ⟨([94]++T++[36]).toArray⟩)∧Below w.heap.size w w':=by
 obtain⟨i0,hi0,hz0,hz1,hz2⟩:=info_parts Tryz.infoU8
 obtain⟨base,hbase⟩:∃ b,b=w.heap.size:=⟨_,rfl⟩
 have hb:base≤w.heap.size:=by omega
 have HX:Hid (ChoicesTxt base w (.slice a n c) T):=hbase▸hX
 have HB:Hid (base=w.heap.size):=hbase
 clear hX hbase
 have HO:Hid (Out base w (w.alloc (ptnObj true true a n c)) (.slice none 0 0) []):=(Out.start (buf_nil _ _)).alloc hb _
 have HC:Hid ((w.alloc (ptnObj true true a n c)).heap[w.heap.size]?=some (ptnObj true true a n c)):=heap_alloc_new _ _
 have hlT:([94]++T).length+1≤850000:=by simp;omega
 go_enter Tryz.func57,Tryz.ntmps57
 have hnil:([]:List UInt8).length=0:=List.length_nil
 go_wp2_with (at_builtin;refine wpList_append_own_at _ rfl (.tmp 6) (.tmp 7) 73 rfl base 5 i0 (.int .u8 0) 1 1 Tryz.underlying73 hi0 hz0 hz1 hz2 rfl (by decide) (Value.slice none 0 0) (([]:List UInt8)).length ((([]:List UInt8)).map bv) rfl (HO.out.buf.alloc _) ⟨w.heap.size+1,0,none⟩ 1 1 [bv 94] rfl rfl (by intro j u hj;cases j with|zero=>(simp at hj;subst hj;simp[Addr.add,go_sem])|succ j=>simp at hj) (bv_one [94]) (by unfold maxLen;omega) (by omega) (by simp;omega) ?_)
 intro v1 w1 hown1 hgr1 _ hob1
 have hO0:Out base (w.alloc (ptnObj true true a n c)) w1 v1 [94]:=(Out.start (buf_nil _ base)).app (by simp;omega) hgr1 hown1
 have HO1:Hid (Out base w w1 v1 [94]):=HO.out.trans hO0
 have hc:=ptn_cells (g:=w.heap.size) HC.out hO0
 have c2:w1.cell? ⟨w.heap.size,2,none⟩=some (.slice a n c):=by simp[World.cell?,hc]
 have HC1:Hid (w1.heap[w.heap.size]?=some (ptnObj true true a n c)):=hc
 have hb1:base≤w1.heap.size:=HO1.out.sz hb
 clear hown1 hgr1 hob1 hO0 hc hnil
 go_wp2_with (first|((at_builtin;refine wpList_append_own_at _ rfl (.tmp 15) (.tmp 16) 73 rfl base 5 i0 (.int .u8 0) 1 1 Tryz.underlying73 hi0 hz0 hz1 hz2 rfl (by decide) v3 (([94]++T)).length ((([94]++T)).map bv) rfl (HO3.out.buf.alloc _) ⟨w3.heap.size,0,none⟩ 1 1 [bv 36] rfl rfl (by intro j u hj;cases j with|zero=>(simp at hj;subst hj;simp[Addr.add,go_sem])|succ j=>simp at hj) (bv_one [36]) (by unfold maxLen;omega) (by omega) (by simp;omega) ?_))|(go_at_call 98;refine(HX.out _ HO1.out.bl _ [94] HO1.out.buf hb1 (by simp;omega)).mono ?_;rintro e w3 ⟨v3,rfl,hO3⟩;have HO3:Hid (Out base w w3 v3 ([94]++T)):=HO1.out.trans hO3;have hc:=ptn_cells (g:=w.heap.size) HC1.out hO3;have c1:w3.cell? ⟨w.heap.size,1,none⟩=some (.bool true):=(by simp[World.cell?,hc]);clear hO3 hc;have hb3:base≤w3.heap.size:=HO3.out.sz hb))
 intro v5 w5 hown5 hgr5 _ hob5
 have HO5:Hid (Out base w w5 v5 (([94]++T)++[36])):=HO3.out.app hb3 hgr5 hown5
 have hcv:=conv_buf HO5.out.buf
 clear hown5 hgr5 hob5
 go_wp2
 go_ret
 exact⟨by simp,HB.out▸HO5.out.bl⟩
theorem text_any (w:World) (p:Ptn) (a:Option Addr) (n c:Nat) (hX:ChoicesTxt w.heap.size w (.slice a n c) (tCs p.choices)) (hlen:(tCs p.choices).length≤849000) :
  Calls Tryz.prog 57 #[.agg #[.bool p.front,.bool p.back,.slice a n c]] w fun e w'=>e=.returned (.string ⟨(tPtn p).toArray⟩)∧Below w.heap.size w w':=by
 obtain⟨f,b,cs⟩:=p
 cases f<;>cases b
 ·simpa [tPtn] using text_ff w a n c _ hX hlen
 ·simpa [tPtn] using text_ft w a n c _ hX hlen
 ·simpa [tPtn] using text_tf w a n c _ hX hlen
 ·simpa [tPtn] using text_tt w a n c _ hX hlen
end Go.Proofs.YtbjabpodkaokjaaGreatDoor.Sx

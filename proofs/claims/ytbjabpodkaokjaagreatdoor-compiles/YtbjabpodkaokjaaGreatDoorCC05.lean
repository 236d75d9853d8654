import Derived.Test.YtbjabpodkaokjaaGreatDoorCC02
import Derived.Maps.Own
import Derived.OwnWalk
import Derived.Lib.LazyBuf
import Derived.Great.BuildSlice
import Derived.Lib.AppendStr
import Derived.Laws.BitsLemmas
import Derived.Laws.Bits64
set_option linter.all false
set_option maxHeartbeats 4000000
set_option maxRecDepth 100000
open List Nat Go.World Go.Proofs.Tryz
namespace Go.Proofs.YtbjabpodkaokjaaGreatDoor
open Go.RowKit
variable {w':World}{lo:Nat}{w:World}{g:Nat}{f b:Bool}{s:Int}{o:Nat}{v:Value}{cf:Nat->Int}{S:Nat->Bool}{t:Tb}{vs:List Value}{va vn:Value}{c n:Nat}{z:Value}{j:Nat}{x:Value}{zs:List Int}{S':Nat->Bool}
def aS {α:Type} (enc:α->Value) (w:World) (v:Value) (l:List α):Prop:=
 (l=[]/\∃ a c,v=.slice a 0 c)\/∃ b o c,v=.slice (some ⟨b,o,none⟩) l.length c/\∀ j (hj:j<l.length),w.cell? ⟨b,o+j,none⟩=some (enc l[j])
def aS.form {α:Type}{enc:α->Value}{l:List α} (h:aS enc w v l):∃ a c,v=.slice a l.length c:=by
 rcases h with⟨rfl,a,c,rfl⟩|⟨b,o,c,rfl,_⟩
 .exact⟨a,c,rfl⟩
 .exact⟨_,c,rfl⟩
def aS.nonnil {α:Type}{enc:α->Value}{l:List α} (h:aS enc w v l) (hl:0<l.length):∃ b o c,v=.slice (some ⟨b,o,none⟩) l.length c/\∀ j (hj:j<l.length),w.cell? ⟨b,o+j,none⟩=some (enc l[j]):=by
 rcases h with⟨rfl,_⟩|h
 .simp at hl
 .exact h
def aF {b o:Nat} (h:w.cell? ⟨b,o,none⟩=some v):b<w.heap.size:=by
 rcases Nat.lt_or_ge b w.heap.size with q|q
 .exact q
 .simp[cell?,Array.getElem?_eq_none q] at h
def cell_below {b o:Nat} (hb:Below w.heap.size w w') (h:w.cell? ⟨b,o,none⟩=some v):w'.cell? ⟨b,o,none⟩=some v:=by
 have e:=hb.block b (aF h);simp only[cell?] at h ⊢;rw[e];exact h
def aS.below {α:Type}{enc:α->Value}{l:List α} (h:aS enc w v l) (hb:Below w.heap.size w w'):aS enc w' v l:=by
 rcases h with h|⟨b,o,c,rfl,hc⟩
 .exact .inl h
 .exact .inr ⟨b,o,c,rfl,λj hj=>cell_below hb (hc j hj)⟩
def fV {α:Type} (enc:α->Value) (w:World) (v:Value) (ls:List (List α)):Prop:=
 ∃ us:List Value,us.length=ls.length/\aS id w v us/\∀ j (h1:j<us.length) (h2:j<ls.length),aS enc w us[j] ls[j]
theorem fV.below {α:Type}{enc:α->Value}{ls:List (List α)} (h:fV enc w v ls) (hb:Below w.heap.size w w'):fV enc w' v ls:=by
 obtain⟨us,h1,h2,h3⟩:=h;exact⟨us,h1,h2.below hb,λj a b=>(h3 j a b).below hb⟩
abbrev eI (z:Int):Value:=.int .i64 z
abbrev eB (b:Bool):Value:=.bool b
abbrev e8 (z:Int):Value:=.int .u8 z
abbrev ba (l:List UInt8):ByteArray:=⟨l.toArray⟩
theorem h_ (l:List UInt8):(ba l).size=l.length:=by simp[ByteArray.size]
abbrev tv (t:Tb) (va vn:Value):Value:=.agg #[.bool t.front,.bool t.back,.int .i64 t.start,.string (ba t.cls),va,vn]
structure cJ (w:World) (t:Tb) (va vn:Value):Prop where
 acc:aS eB w va t.acc
 next:fV eI w vn t.next
theorem cJ.below (h:cJ w t va vn) (hb:Below w.heap.size w w'):cJ w' t va vn:=⟨h.acc.below hb,h.next.below hb⟩
structure qn (t:Tb):Prop where
 a:t.acc.length<=maxLen
 n:t.next.length<=maxLen
 r:∀ r∈t.next,r.length<=maxLen
 c:t.cls.length<=maxLen
def rowOk (c:Nat) (n:Nat) (r:List Int):Bool:=r.length==c&&r.all λz=>fY z n
def mh (t:Tb):Bool:=
 decide (1<=t.acc.length)&&(decide (t.acc.length<=200)&&(decide (t.next.length=t.acc.length)&&(fY t.start t.acc.length&&match iG (ba t.cls) with
  |none=>false
  |some c=>t.next.all (rowOk c t.acc.length))))
variable (w t va vn) in
def wM (h:cJ w t va vn) (hs:qn t) :
  Calls prog 76 #[tv t va vn] w λe w'=>e=.returned (.bool (mh t))/\Below w.heap.size w w':=by
 obtain⟨ha,hn⟩:=h;obtain⟨s1,s2,s3,s4⟩:=hs;obtain⟨a,ca,rfl⟩:=ha.form;obtain⟨us,y,hu,hr⟩:=hn;obtain⟨f,b,st,cls,d,next⟩:=t
 simp only at *
 obtain⟨an,cn,rfl⟩:=hu.form;obtain⟨na,G⟩:=zx d.length;obtain⟨nn,D⟩:=zx us.length;have HT:Hid (mh ⟨f,b,st,cls,d,next⟩=(decide (1<=na)&&(decide (na<=200)&&(decide (nn=na)&&(fY st na&&match iG (ba cls) with|none=>false|some c=>next.all (rowOk c na)))))):=by
  show _=_;rw[G,D,y];rfl
 rw[<-G] at s1 ⊢;rw[<-D] at y hu ⊢;have HB:Hid (Below w.heap.size w (w.alloc (.cells #[.bool f,.bool b,.int .i64 st,.string (ba cls),.slice a na ca,.slice an nn cn] 33))):=ZA;have hU:=zh (hu.below HB);have O:Hid (∀ j (h1:j<us.length) (h2:j<next.length),aS eI (w.alloc (.cells #[.bool f,.bool b,.int .i64 st,.string (ba cls),.slice a na ca,.slice an nn cn] 33)) us[j] next[j]):=λj h1 h2=>(hr j h1 h2).below HB
 unfold maxLen at s1 s2 s3 s4;have M:=zh y;have Q:=zh D;rw[<-y] at s2;clear G ha hu hr y D
 by_cases h1:(na:Int)<1
 .have HF:Hid (mh ⟨f,b,st,cls,d,next⟩=false):=by
   show _=_;rw[HT.out,decide_eq_false ω];rfl
  clear HT
  go_enter func76,ntmps76
  go_wp2
  go_ret
  exact⟨a_ HF.symm,HB⟩
 by_cases h2:200<(na:Int)
 .have HF:Hid (mh ⟨f,b,st,cls,d,next⟩=false):=by
   show _=_;rw[HT.out,decide_eq_false (p:=na<=200) ω];simp
  clear HT
  go_enter func76,ntmps76
  go_wp2
  go_ret
  exact⟨a_ HF.symm,HB⟩
 by_cases h3:(nn:Int)=na
 rotate_left
 .have HF:Hid (mh ⟨f,b,st,cls,d,next⟩=false):=by
   show _=_;rw[HT.out,decide_eq_false (p:=nn=na) ω];simp
  have V:((nn:Int) != na)=true:=by simpa using h3
  clear HT
  go_enter func76,ntmps76
  go_wp2
  go_ret
  exact⟨a_ HF.symm,HB⟩
 have V:((nn:Int) != na)=false:=by simpa using h3
 cases h4:fY st na with
 |false=>
  have HF:Hid (mh ⟨f,b,st,cls,d,next⟩=false):=by
   show _=_;rw[HT.out,h4];simp
  clear HT;have l:=oD st na;rw[h4] at l
  go_enter func76,ntmps76
  go_wp2_with (go_at_call 134;refine(l _).mono ?_;rintro e w1 ⟨rfl,hw⟩;obtain rfl:=hw.symm)
  go_ret
  exact⟨a_ HF.symm,HB⟩
 |true=>
 have l:=oD st na;rw[h4] at l;have q:=nz (ba cls) (by rw[h_];unfold maxLen;exact s4)
 cases h5:iG (ba cls) with
 |none=>
  have HF:Hid (mh ⟨f,b,st,cls,d,next⟩=false):=by
   show _=_;rw[HT.out,h5];simp
  rw[h5] at q;clear HT
  go_enter func76,ntmps76
  go_wp2_with (first|(go_at_call 135;refine(q _).mono ?_;rintro e w2 ⟨rfl,K⟩;obtain rfl:=K.symm)|(go_at_call 134;refine(l _).mono ?_;rintro e w1 ⟨rfl,hw⟩;obtain rfl:=hw.symm))
  go_ret
  exact⟨a_ HF.symm,HB⟩
 |some c=>
 rw[h5] at q;have HF:Hid (mh ⟨f,b,st,cls,d,next⟩=next.all (rowOk c na)):=by
  show _=_;rw[HT.out,h5,h4,decide_eq_true (p:=1<=na) ω,decide_eq_true (p:=na<=200) ω,decide_eq_true (p:=nn=na) ω];simp
 have T:c<=256:=by
  unfold iG at h5
  split at h5
  .have:=pu _ _ _ h5;omega
  .simp at h5
 clear HT h5;simp only[Option.getD_some,Option.isSome_some] at q;obtain⟨wx,H⟩:=zx (w.alloc (.cells #[.bool f,.bool b,.int .i64 st,.string (ba cls),.slice a na ca,.slice an nn cn] 33));rw[<-H] at HB hU O;have HW:=zh H;obtain⟨bn,on,Z,U,A⟩:=hU.out.nonnil (η Q.out);injection U with e1 e2 e3;subst e1;have HC:=zh A;clear A e2 e3 hU H
 go_enter func76,ntmps76
 go_wp2_with (first|(go_at_call 135;refine(q _).mono ?_;rintro e w2 ⟨rfl,K⟩;obtain rfl:=K.symm)|(go_at_call 134;refine(l _).mono ?_;rintro e w1 ⟨rfl,hw⟩;obtain rfl:=hw.symm))
 rw[<-HW.out]
 go_loop [42] (λi=>∃ k:Nat,i=.int .i64 k/\k<=nn/\next.all (rowOk c na)=(next.drop k).all (rowOk c na)) (λi=>nn-(intOf i).toNat)
 case atStart=>exact⟨0,rfl,Zk _,rfl⟩
 case round=>
  obtain⟨k,rfl,hk,N⟩:=hrel;have HE:=zh N;clear N
  by_cases hlt:k<nn
  .have E:k<us.length:=by have:=Q.out;omega
   have B:k<next.length:=by have:=M.out;omega
   have X:(k:Int)<nn:=ω;have W:=HC k E;have m:=O.out k E B;have F:=s3 _ (Zg B);obtain⟨u,hu⟩:=zx (us[k]);obtain⟨r,I⟩:=zx (next[k]);rw[<-hu] at W m;rw[<-I] at m F;have HD:Hid (next.all (rowOk c na)=(rowOk c na r&&(next.drop (k+1)).all (rowOk c na))):=by
    show _=_;have:=HE.out;rw[drop_eq_getElem_cons B,<-I] at this;simpa only [all_cons] using this
   have C:=sl u r na wx m (by unfold maxLen;exact F);obtain⟨au,cu,L⟩:=m.form;subst L;clear hu I m
   by_cases hc:(r.length:Int)=c
   .have R:((r.length:Int) != c)=false:=by simpa using hc
    cases hal:r.all λz=>fY z na with
    |true=>
     rw[hal] at C;have HQ:Hid (next.all (rowOk c na)=(next.drop (k+1)).all (rowOk c na)):=by
      show _=_;rw[HD.out];simp only[rowOk];rw[hal];simp;omega
     clear hal;go_wp2_with (go_at_call 136;refine C.mono ?_;rintro e w3 ⟨rfl,J⟩;obtain rfl:=J.symm)
     go_round
     case rel=>exact⟨k+1,π,ω,HQ⟩
     case measure=>simp[intOf]<;>omega
    |false=>
     rw[hal] at C;have HQ:Hid (next.all (rowOk c na)=false):=by
      show _=_;rw[HD.out];simp only[rowOk];rw[hal];simp
     clear hal;go_wp2_with (go_at_call 136;refine C.mono ?_;rintro e w3 ⟨rfl,J⟩;obtain rfl:=J.symm)
     go_ret
     exact⟨a_ (by rw[HF.out,HQ.out]),HB⟩
   .have R:((r.length:Int) != c)=true:=by simpa using hc
    have HQ:Hid (next.all (rowOk c na)=false):=by
     show _=_;rw[HD.out];simp only[rowOk];rw[show(r.length==c)=false by simp;omega];simp
    clear C;go_wp2
    go_ret
    exact⟨a_ (by rw[HF.out,HQ.out]),HB⟩
  .have Y:¬(k:Int)<nn:=ω;have HQ:Hid (next.all (rowOk c na)=true):=by
    show _=_;rw[HE.out,drop_of_length_le (η M.out)];rfl
   go_wp2
   go_ret
   exact⟨a_ (by rw[HF.out,HQ.out]),HB⟩
open Go.Maps (Keyed)
open Go.ChangeMaps (setBlock)
def bW (vs:List Value):Array MapEntry:=(vs.zipIdx.map λp=>(⟨p.1,.int .i64 (p.2:Int),p.2⟩:MapEntry)).toArray
variable (vs j) in
theorem lh:(bW vs).toList[j]?=vs[j]?.map λv=>(⟨v,.int .i64 (j:Int),j⟩:MapEntry):=by
 simp[bW,getElem?_map,getElem?_zipIdx]
 cases vs[j]?<;>simp
variable (vs x) in
def zy:(bW vs).push ⟨x,.int .i64 (vs.length:Int),vs.length⟩=bW (vs++[x]):=by
 apply Array.ext';simp[bW,zipIdx_append]
def zB (vs:List Value):(bW vs).size=vs.length:=by simp[bW]
def qo {e:MapEntry} (h:e∈(bW vs).toList):e.key∈vs:=by
 obtain⟨j,hj⟩:=mem_iff_getElem?.1 h;rw[lh] at hj;obtain⟨v,hv,rfl⟩:=Option.map_eq_some_iff.1 hj;exact mem_of_getElem? hv
section
variable {P:Program}{k e t:TypeId}{w:World}{b:Nat}{vs:List Value}{x:Value}
def gE (K:Keyed P k) (ht:P.underlying t=some (.map k e)) (hz:(zeroValue e).run P w=.ok (.int .i64 0) w) (hb:w.heap[b]?=some (.map (bW vs) vs.length))
  (hk:∀ v∈vs,∃ l,keyOf P k v=some l) (hx:∃ l,keyOf P k x=some l) :
  (x ∉ vs/\(Instr.lookup t (.map (some b)) x true).run P w=.ok (.tuple #[.int .i64 0,.bool false]) w) \/
   ∃ j:Nat,vs[j]?=some x/\(Instr.lookup t (.map (some b)) x true).run P w=.ok (.tuple #[.int .i64 (j:Int),.bool true]) w:=by
 obtain⟨l,hl⟩:=hx;rcases K.find w hl (bW vs).toList (λe he=>hk _ (qo he)) with⟨h1,h2⟩|⟨j,e0,h1,h2,h3⟩
 .refine .inl ⟨λhm=>?_,by simp[Instr.lookup,run_underlying ht,MapKept.run_getObj_map hb,K.check w _ hl,h1,hz,Result.andThen]⟩;obtain⟨j,hj⟩:=mem_iff_getElem?.1 hm;have:=lh vs j;rw[hj] at this;exact h2 _ (mem_of_getElem? this) rfl
 .rw[lh] at h2;obtain⟨v,hv,rfl⟩:=Option.map_eq_some_iff.1 h2;refine .inr ⟨j,by rw[hv];exact congrArg some h3,by simp[Instr.lookup,run_underlying ht,MapKept.run_getObj_map hb,K.check w _ hl,h1,Result.andThen]⟩
def py (K:Keyed P k) (ht:P.underlying t=some (.map k e)) (hb:w.heap[b]?=some (.map (bW vs) vs.length))
  (hk:∀ v∈vs,∃ l,keyOf P k v=some l) (hx:∃ l,keyOf P k x=some l) (hn:x ∉ vs) :
  (Instr.mapUpdate t (.map (some b)) x (.int .i64 (vs.length:Int))).run P w=.ok () (setBlock w b (.map (bW (vs++[x])) (vs++[x]).length)):=by
 obtain⟨l,hl⟩:=hx;rcases K.find w hl (bW vs).toList (λe he=>hk _ (qo he)) with⟨h1,h2⟩|⟨j,e0,h1,h2,h3⟩
 .simp[Instr.mapUpdate,run_underlying ht,MapKept.run_getObj_map hb,K.check w _ hl,h1,Result.andThen,zy,setBlock,MapKept.run_setObj_map _ hb]
 .rw[lh] at h2;obtain⟨v,hv,rfl⟩:=Option.map_eq_some_iff.1 h2;exact absurd (h3▸mem_of_getElem? hv) hn
def lj (ty:TypeId) (ht:P.underlying t=some (.map k e)) (hb:w.heap[b]?=some (.map (bW vs) vs.length)):(Builtin.len_ #[t] ty #[.map (some b)]).run P w=.ok (.int .i64 (vs.length:Int)) w:=by
 simp[Builtin.len_,run_underlying ht,MapKept.run_getObj_map hb,Result.andThen,zB,goInt]
end
open Go.RowKit
def jp (n:Nat) (z:Value):Array Value:=madeCells z.cells n
def mJ (hz:z.cells=#[z]) (n j:Nat) (hj:j<n):(jp n z)[j]?=some z:=by
 simp[jp,madeCells,hz,hj,mod_one]
def dv {t e:TypeId}{i:TypeInfo}{b:Nat} (ht:prog.underlying t=some (.slice e)) (hi:prog.info? e=some i) (hz:i.zero=some z) (h1:i.size=1) (h2:i.bytes=b) (n:Nat) (hn:b*n<=281474976710656) (hm:n<=maxLen) (w:World) :
  (Instr.makeSlice t (.int .i64 (n:Int)) (.int .i64 (n:Int))).run prog w=.ok (.slice (some ⟨w.heap.size,0,none⟩) n n) (w.alloc (.cells (jp n z) e)):=by
 have a:(i.bytes:Int)*(n:Int)<=281474976710656:=by
  have h:((i.bytes*n:Nat):Int)<=281474976710656:=by rw[h2];omega
  rwa [Int.natCast_mul] at h
 have hr:=run_make (P:=prog) w t e i z ht hi hz .i64 .i64 n n ω (Int.le_refl _) a (by simp[maxLen] at hm;omega);simp only[Int.toNat_natCast,h1,Nat.mul_one] at hr;exact hr
def Tryz.infoI:(prog.info? 3).map (λi=>(i.zero,i.size,i.bytes))=some (some (.int .i64 0),1,8):=κ
def Tryz.infoB:(prog.info? 4).map (λi=>(i.zero,i.size,i.bytes))=some (some (.bool false),1,1):=κ
def Tryz.infoU8:(prog.info? 5).map (λi=>(i.zero,i.size,i.bytes))=some (some (.int .u8 0),1,1):=κ
def Tryz.infoSt:(prog.info? 158).map (λi=>(i.zero,i.size,i.bytes))=some (some (.int .u8 0),1,1):=κ
def Tryz.infoLI:(prog.info? 40).map (λi=>(i.zero,i.size,i.bytes))=some (some (.slice none 0 0),1,24):=κ
def Tryz.infoLS:(prog.info? 164).map (λi=>(i.zero,i.size,i.bytes))=some (some (.slice none 0 0),1,24):=κ
structure Nw (w:World) (g n:Nat) (f:Nat->Value):Prop where
 c:∀ j,j<n->w.cell? ⟨g,j,none⟩=some (f j)
 fz:∀ o,w.frozen? ⟨g,o,none⟩=false
variable (w n z) in
def Nw.new (hz:z.cells=#[z]) (e:TypeId):Nw (w.alloc (.cells (jp n z) e)) w.heap.size n (λ_=>z):=
 ⟨λj hj=>by rw[cell?_alloc_at _ _ _ _ rfl];exact mJ hz n j hj,λo=>by simp[go_sem]⟩
def Nw.set {f:Nat->Value} (h:Nw w g n f) (k:Nat) (hk:k<n) (v:Value):Nw (w.setCell ⟨g,k,none⟩ v) g n (λj=>if j=k then v else f j):=by
 refine⟨λj hj=>?_,λo=>by simpa using h.fz o⟩
 by_cases e:j=k
 .subst e;rw[cell?_setCell_same _ _ _ (h.c j hj)];simp
 .rw[cell?_setCell_other _ _ _ _ ψ,h.c j hj];simp[e]
def Nw.congr {f f':Nat->Value} (h:Nw w g n f) (e:∀ j,j<n->f j=f' j):Nw w g n f':=⟨λj hj=>by rw[h.c j hj,e j hj],h.fz⟩
def Nw.of_block {f:Nat->Value} (h:Nw w g n f) (e:w'.heap[g]?=w.heap[g]?):Nw w' g n f:=
 ⟨λj hj=>by have:=h.c j hj;simp only[cell?] at this ⊢;rw[e];exact this,λo=>by have:=h.fz o;simp only[frozen?] at this ⊢;rw[e];exact this⟩
def Nw.row {α:Type}{l:List α}{enc:α->Value}{f:Nat->Value} (h:Nw w g l.length f) (e:∀ j (hj:j<l.length),f j=enc l[j]):aS enc w (.slice (some ⟨g,0,none⟩) l.length c) l:=
 .inr ⟨g,0,c,rfl,λj hj=>by rw[Nat.zero_add,h.c j hj,e j hj]⟩
def Bn (z:Int) (h:0<=z/\z<256):IntKind.u8.wrap z=z:=by
 rw[IntKind.wrap_u8];omega
variable (w v zs) in
def Da (hv:aS eI w v zs) (hl:zs.length<=65536) (hz:∀ z∈zs,0<=z/\z<256) :
  Calls prog 77 #[v] w λe w'=>∃ g,e=.returned (.slice (some ⟨g,0,none⟩) zs.length zs.length)/\w.heap.size<=g/\g<w'.heap.size/\Nw w' g zs.length (λj=>e8 (zs[j]?.getD 0))/\Below w.heap.size w w':=by
 obtain⟨i0,hi,A,C,E⟩:=info_parts Tryz.infoSt;have G:=λn hn hm w=>dv underlying164 hi A C E n hn hm w
 obtain⟨a,c,d⟩:=hv.form;subst d;obtain⟨n,hn⟩:=zx zs.length;have HN:=zh hn;rw[<-hn] at hl ⊢;have I:=G n ω Zs;have hB:Below w.heap.size w (w.alloc (.cells (jp n (.int .u8 0)) 158)):=ZA;have HV:Hid (aS eI w (.slice a n c) zs):=by show aS _ _ _ _;rw[hn];exact hv
 have B:Hid (Nw (w.alloc (.cells (jp n (.int .u8 0)) 158)) w.heap.size n (λ_=>.int .u8 0)):=Nw.new w n _ rfl _;clear hn hv
 go_enter func77,ntmps77
 go_wp2
 go_loopw [11] (λi wr=>∃ k:Nat,i=.int .i64 k/\k<=n/\Nw wr w.heap.size n (λj=>if j<k then e8 (zs[j]?.getD 0) else .int .u8 0)/\Below w.heap.size w wr/\w.heap.size<wr.heap.size) (λi _=>n-(intOf i).toNat)
 case atStart=>exact⟨0,rfl,Zk _,B.congr (λj _=>χ),hB,χ⟩
 case round=>
  obtain⟨k,rfl,hk,F,u,D⟩:=hrel;have r:=zh D;have HW:=zh F;have q:=zh u
  by_cases hlt:k<n
  .have m:k<zs.length:=by have:=HN.out;omega
   obtain⟨b,o,c',d,h⟩:=(HV.below q).nonnil ω;injection d with e1 e2 e3;subst e1;have H:=h k m;obtain⟨z,l⟩:=zx (zs[k]);rw[<-l] at H;have HZ:=zh l;have L:=Bn z (hz _ (by rw[l];exact Zg _));have y:=HW.c k hlt;simp only[Nat.lt_irrefl,if_false] at y;have J:=HW.fz k;clear h l e2 e3;go_wp2
   go_roundw
   case rel=>
    refine⟨k+1,π,ω,(HW.set k hlt _).congr (λj hj=>?_),q.setCell (p:=⟨w.heap.size,k,none⟩) zq _,by have:=r.out;simpa [World.setCell] using this⟩
    by_cases e:j=k
    .subst e;simp[HZ.out,m]
    .simp only[e,if_false]
     by_cases h2:j<k
     .rw[Zi h2,Zi ω]
     .rw[Zh h2,Zh ω]
   case measure=>simp[intOf]<;>omega
  .have K:¬(k:Int)<n:=ω;go_wp2
   go_ret
   exact⟨_,rfl,zq,r,HW.congr (λj hj=>by rw[Zi ω]),q⟩
variable (w v zs) in
def Db (hv:aS e8 w v zs) (hl:zs.length<=65536) (hz:∀ z∈zs,0<=z/\z<256) :
  Calls prog 96 #[v] w λe w'=>∃ g,e=.returned (.slice (some ⟨g,0,none⟩) zs.length zs.length)/\w.heap.size<=g/\g<w'.heap.size/\Nw w' g zs.length (λj=>eI (zs[j]?.getD 0))/\Below w.heap.size w w':=by
 obtain⟨i0,hi,A,C,E⟩:=info_parts Tryz.infoI;have G:=λn hn hm w=>dv underlying40 hi A C E n hn hm w
 obtain⟨a,c,d⟩:=hv.form;subst d;obtain⟨n,hn⟩:=zx zs.length;have HN:=zh hn;rw[<-hn] at hl ⊢;have I:=G n ω Zs;have hB:Below w.heap.size w (w.alloc (.cells (jp n (.int .i64 0)) 3)):=ZA;have HV:Hid (aS e8 w (.slice a n c) zs):=by show aS _ _ _ _;rw[hn];exact hv
 have B:Hid (Nw (w.alloc (.cells (jp n (.int .i64 0)) 3)) w.heap.size n (λ_=>.int .i64 0)):=Nw.new w n _ rfl _;clear hn hv
 go_enter func96,ntmps96
 go_wp2
 go_loopw [11] (λi wr=>∃ k:Nat,i=.int .i64 k/\k<=n/\Nw wr w.heap.size n (λj=>if j<k then eI (zs[j]?.getD 0) else .int .i64 0)/\Below w.heap.size w wr/\w.heap.size<wr.heap.size) (λi _=>n-(intOf i).toNat)
 case atStart=>exact⟨0,rfl,Zk _,B.congr (λj _=>χ),hB,χ⟩
 case round=>
  obtain⟨k,rfl,hk,F,u,D⟩:=hrel;have r:=zh D;have HW:=zh F;have m:=zh u
  by_cases hlt:k<n
  .have h:k<zs.length:=by have:=HN.out;omega
   obtain⟨b,o,c',d,l⟩:=(HV.below m).nonnil ω;injection d with e1 e2 e3;subst e1;have H:=l k h;obtain⟨z,q⟩:=zx (zs[k]);rw[<-q] at H;have HZ:=zh q;have K:=hz _ (show z∈zs by rw[q];exact Zg _);have y:=HW.c k hlt;simp only[Nat.lt_irrefl,if_false] at y;have J:=HW.fz k;go_wp2
   go_roundw
   case rel=>
    refine⟨k+1,π,ω,(HW.set k hlt _).congr (λj hj=>?_),m.setCell (p:=⟨w.heap.size,k,none⟩) zq _,by have:=r.out;simpa [World.setCell] using this⟩
    by_cases e:j=k
    .subst e;simp[HZ.out,h]
    .simp only[e,if_false]
     by_cases h2:j<k
     .rw[Zi h2,Zi ω]
     .rw[Zh h2,Zh ω]
   case measure=>simp[intOf]<;>omega
  .have L:¬(k:Int)<n:=ω;go_wp2
   go_ret
   exact⟨_,rfl,zq,r,HW.congr (λj hj=>by rw[Zi ω]),m⟩
def rg (n:Nat) (z:Value):List Value:=(List.range n).map λ_=>z
theorem ju (n:Nat) (z:Value):(rg n z).length=n:=by simp[rg]
variable (n z j) in
def Fb (h:j<n):(rg n z)[j]?=some z:=by simp[rg,h]
def qp (f b:Bool) (s:Int) (v:Value):Array Value:=([Value.bool f,.bool b,.int .u8 s]++rg 256 (Value.int .u8 0)++rg 4 (Value.int .u64 0)++[v]).toArray
def zA:Array Value:=qp false false 0 (.slice none 0 0)
def Bo:zA.size=264:=κ
def Lh:(zA=#[])=False:=by
 have:=Bo;simp only[eq_iff_iff,iff_false];intro e;rw[e] at this;simp at this
def Tryz.infoAu:(prog.info? 163).map (λi=>(i.zero,i.size))=some (some (.agg zA),264):=κ
def Ki (w:World):(zeroValue 163).run prog w=.ok (.agg zA) w:=by
 have h:=Tryz.infoAu
 cases hi:prog.info? 163 with
 |none=>simp[hi] at h
 |some i=>
  simp only[hi,Option.map_some,Option.some.injEq,Prod.mk.injEq] at h;simp[zeroValue,typeInfo,hi,h.1]
def Kj (f b:Bool) (s:Int) (a:Option Addr) (n c:Nat):(((zA.setIfInBounds 0 (.bool f)).setIfInBounds 1 (.bool b)).setIfInBounds 2 (.int .u8 s)).setIfInBounds 263 (.slice a n c)=qp f b s (.slice a n c):=κ
structure Au (w:World) (g:Nat) (f b:Bool) (s:Int) (cf:Nat->Int) (S:Nat->Bool) (v:Value):Prop where
 c0:w.cell? ⟨g,0,none⟩=some (.bool f)
 c1:w.cell? ⟨g,1,none⟩=some (.bool b)
 c2:w.cell? ⟨g,2,none⟩=some (.int .u8 s)
 cl:∀ j,j<256->w.cell? ⟨g,3+j,none⟩=some (.int .u8 (cf j))
 st:∃ x0 x1 x2 x3,Sx.fg w g 259 S x0 x1 x2 x3
 cn:w.cell? ⟨g,263,none⟩=some v
theorem Au.fz (h:Au w g f b s cf S v) (o:Nat):w.frozen? ⟨g,o,none⟩=false:=by
 obtain⟨x0,x1,x2,x3,h⟩:=h.st;exact h.fz o
def Au.lt (h:Au w g f b s cf S v):g<w.heap.size:=aF h.c0
def Au.of_block (h:Au w g f b s cf S v) (e:w'.heap[g]?=w.heap[g]?):Au w' g f b s cf S v:=by
 have hc:∀ o,w'.cell? ⟨g,o,none⟩=w.cell? ⟨g,o,none⟩:=λo=>by simp[cell?,e]
 have hf:∀ o,w'.frozen? ⟨g,o,none⟩=w.frozen? ⟨g,o,none⟩:=λo=>by simp[frozen?,e]
 obtain⟨c0,c1,c2,cl,⟨x0,x1,x2,x3,⟨wd,d0,d1,d2,d3,fz⟩⟩,cn⟩:=h;exact⟨(hc _).trans c0,(hc _).trans c1,(hc _).trans c2,λj hj=>(hc _).trans (cl j hj),⟨x0,x1,x2,x3,⟨wd,(hc _).trans d0,(hc _).trans d1,(hc _).trans d2,(hc _).trans d3,λo=>(hf o).trans (fz o)⟩⟩,(hc _).trans cn⟩
def Au.four (h:Au w g f b s cf S v) (h4:Sx.ft g 259 w w') (hs:∃ x0 x1 x2 x3,Sx.fg w' g 259 S' x0 x1 x2 x3):Au w' g f b s cf S' v:=by
 obtain⟨c0,c1,c2,cl,_,cn⟩:=h;exact⟨(h4.cell _ ω).trans c0,(h4.cell _ ω).trans c1,(h4.cell _ ω).trans c2,λj hj=>(h4.cell _ ω).trans (cl j hj),hs,(h4.cell _ ω).trans cn⟩
def Au.set (h:Au w g f b s cf S v) (e:∀ n,n<256->S n=S' n):Au w g f b s cf S' v:=by
 obtain⟨c0,c1,c2,cl,⟨x0,x1,x2,x3,h⟩,cn⟩:=h;obtain⟨⟨l0,l1,l2,l3,b0,b1,b2,b3⟩,d0,d1,d2,d3,fz⟩:=h;exact⟨c0,c1,c2,cl,⟨x0,x1,x2,x3,⟨⟨l0,l1,l2,l3,λn hn=>(b0 n hn).trans (e _ ω),λn hn=>(b1 n hn).trans (e _ ω),λn hn=>(b2 n hn).trans (e _ ω),λn hn=>(b3 n hn).trans (e _ ω)⟩,d0,d1,d2,d3,fz⟩⟩,cn⟩
variable (f b s v j) in
def Fc (hj:j<256):(qp f b s v)[3+j]?=some (.int .u8 0):=by
 simp only[qp,getElem?_toArray];rw[append_assoc,append_assoc,getElem?_append_right χ,Zo (by rw[ju];simp;omega)];exact Fb _ _ _ σ
variable (f b s v j) in
def mK (hj:j<4):(qp f b s v)[259+j]?=some (.int .u64 0):=by
 simp only[qp,getElem?_toArray];rw[append_assoc,getElem?_append_right (by rw[length_append,ju];first|(simp;done)|(simp;omega)),Zo (by rw[length_append,ju,ju];simp;omega)];exact Fb _ _ _ (by rw[length_append,ju];simp;omega)
variable (f b s v) in
def Fd:(qp f b s v)[263]?=some v:=by
 simp only[qp,getElem?_toArray];rw[getElem?_append_right (by rw[length_append,length_append,ju,ju];simp)];rw[length_append,length_append,ju,ju];simp
variable (f b s v) in
def qq:(qp f b s v)[0]?=some (.bool f)/\(qp f b s v)[1]?=some (.bool b)/\(qp f b s v)[2]?=some (.int .u8 s):=by
 simp only[qp,getElem?_toArray,cons_append,getElem?_cons_zero,getElem?_cons_succ,and_self]
variable (w f b s v) in
def Au.new:Au (w.alloc (.cells (qp f b s v) 163)) w.heap.size f b s (λ_=>0) (λ_=>false) v:=by
 have hc:∀ o,(w.alloc (.cells (qp f b s v) 163)).cell? ⟨w.heap.size,o,none⟩=(qp f b s v)[o]?:=λo=>cell?_alloc_at _ _ _ _ rfl
 refine⟨?_,?_,?_,λj hj=>?_,⟨0,0,0,0,⟨⟨ω,ω,ω,ω,χ,χ,χ,χ⟩,?_,?_,?_,?_,λo=>by simp[go_sem]⟩⟩,?_⟩<;>rw[hc]
 .exact(qq f b s v).1
 .exact(qq f b s v).2.1
 .exact(qq f b s v).2.2
 .exact Fc f b s v j hj
 .exact mK f b s v 0 ω
 .exact mK f b s v 1 ω
 .exact mK f b s v 2 ω
 .exact mK f b s v 3 ω
 .exact Fd f b s v
theorem lU (b:Nat):∀(vs:List Value) (o:Nat) (w:World) (p:Nat),(∀ j,j<vs.length->(w.cell? ⟨b,o+j,none⟩).isSome=true) ->
  (w.setCells b o vs).cell? ⟨b,p,none⟩=if o<=p/\p<o+vs.length then vs[p-o]? else w.cell? ⟨b,p,none⟩
 |[],o,w,p,_=>by rw[Zh χ];rfl
 |v::r,o,w,p,h=>by
  have h0:=h 0 χ;obtain⟨u,hu⟩:=Option.isSome_iff_exists.1 h0;have a:w.cell? ⟨b,o,none⟩=some u:=hu;simp only[setCells]
  rw[lU b r (o+1) _ p (λj hj=>by
   have:=h (j+1) (by simpa using hj);rw[cell?_setCell_other _ _ _ _ ψ]
   rw[show o+1+j=o+(j+1) by omega];exact this)]
  by_cases e:p=o
  .subst e;rw[Zh ω,Zi χ,cell?_setCell_same _ _ _ a]
   simp
  .by_cases h2:o+1<=p/\p<o+1+r.length
   .rw[Zi h2,Zi σ,show p-o=(p-(o+1))+1 by omega];rfl
   .rw[Zh h2,Zh σ,cell?_setCell_other _ _ _ _ ψ]
theorem jS (b:Nat) (q:Addr):∀(vs:List Value) (o:Nat) (w:World),(w.setCells b o vs).frozen? q=w.frozen? q
 |[],_,_=>rfl
 |v::r,o,w=>by simp only[setCells];rw[jS b q r (o+1)];simp
def Au.cls (h:Au w g f b s cf S v) (l:List UInt8) (hl:l.length=256) :
  Au (w.setCells g 3 (l.map λx=>Value.int .u8 (x.toNat:Int))) g f b s (λj=>((l[j]?.getD 0).toNat:Int)) S v:=by
 have hs:∀ j,j<(l.map λx=>Value.int .u8 (x.toNat:Int)).length->(w.cell? ⟨g,3+j,none⟩).isSome=true:=λj hj=>by rw[h.cl j (by simpa [hl] using hj)];rfl
 have hc:=λp=>lU g _ 3 w p hs
 have a:∀ p,(p<3\/259<=p)->(w.setCells g 3 (l.map λx=>Value.int .u8 (x.toNat:Int))).cell? ⟨g,p,none⟩=w.cell? ⟨g,p,none⟩:=λp hp=>by rw[hc,Zh (by simp[hl];omega)]
 obtain⟨c0,c1,c2,cl,⟨x0,x1,x2,x3,⟨wd,d0,d1,d2,d3,fz⟩⟩,cn⟩:=h;refine⟨(a _ ω).trans c0,(a _ ω).trans c1,(a _ ω).trans c2,λj hj=>?_,⟨x0,x1,x2,x3,⟨wd,(a _ ω).trans d0,(a _ ω).trans d1,(a _ ω).trans d2,(a _ ω).trans d3,λo=>(jS _ _ _ _ _).trans (fz o)⟩⟩,(a _ ω).trans cn⟩;rw[hc,Zi (by simp[hl];omega)];have:j<l.length:=ω;simp[this]
theorem cg {b k:Nat} (hk:k≠b):∀(vs:List Value) (o:Nat) (w:World),(w.setCells b o vs).heap[k]?=w.heap[k]?
 |[],_,_=>rfl
 |v::r,o,w=>by simp only[setCells];rw[cg hk r (o+1)];exact Zf _ _ _ _ hk
def uT {α:Type} (lo:Nat) (enc:α->Value) (w:World) (v:Value) (l:List α):Prop:=
 ∃ g,v=.slice (some ⟨g,0,none⟩) l.length l.length/\lo<=g/\g<w.heap.size/\(∀ j (hj:j<l.length),w.cell? ⟨g,j,none⟩=some (enc l[j]))/\∀ o,w.frozen? ⟨g,o,none⟩=false
structure Hi (lo:Nat) (w w':World):Prop where
 size:w.heap.size<=w'.heap.size
 block:∀ k,lo<=k->k<w.heap.size->w'.heap[k]?=w.heap[k]?
theorem Hi.refl (lo:Nat) (w:World):Hi lo w w:=⟨zq,λ_ _ _=>rfl⟩
theorem Hi.trans {x y z:World} (h:Hi lo x y) (k:Hi lo y z):Hi lo x z:=⟨Zc h.size k.size,λj h1 h2=>(k.block j h1 (Zd h2 h.size)).trans (h.block j h1 h2)⟩
def Hi.of_below (h:Below w.heap.size w w'):Hi lo w w':=⟨h.size,λk _ h2=>h.block k h2⟩
theorem Hi.setCell (h:Hi lo w w') {b:Nat} (hb:b<lo) (o:Nat) (v:Value):Hi lo w (w'.setCell ⟨b,o,none⟩ v):=h.trans ⟨by simp[World.setCell],λk h1 _=>Zf _ _ _ _ (by simp only;omega)⟩
def Hi.four {w w' w2:World} (h:Hi lo w w') {b off:Nat} (hb:b<lo) (h4:Sx.ft b off w' w2):Hi lo w w2:=h.trans ⟨h4.size,λk h1 h2=>h4.block k h2 ω⟩
theorem Hi.drew (h:Hi lo w w'):Hi lo w w'.drew:=⟨h.size,h.block⟩
theorem Hi.alloc (h:Hi lo w w') (o:Obj):Hi lo w (w'.alloc o):=h.trans ⟨χ,λk _ hk=>Ze _ _ _ hk⟩
def uT.keep {α:Type}{enc:α->Value}{l:List α} (h:uT lo enc w v l) (k:Hi lo w w'):uT lo enc w' v l:=by
 obtain⟨g,h1,h2,h3,h4,h5⟩:=h;have e:=k.block g h2 h3;exact⟨g,h1,h2,Zd h3 k.size,λj hj=>by have:=h4 j hj;simp only[cell?] at this ⊢;rw[e];exact this,λo=>by have:=h5 o;simp only[frozen?] at this ⊢;rw[e];exact this⟩
def uT.of_nw {α:Type}{enc:α->Value}{l:List α}{f:Nat->Value} (h:Nw w g l.length f) (hlo:lo<=g) (hg:g<w.heap.size) (e:∀ j (hj:j<l.length),f j=enc l[j]):uT lo enc w (.slice (some ⟨g,0,none⟩) l.length l.length) l:=
 ⟨g,rfl,hlo,hg,λj hj=>by rw[h.c j hj,e j hj],h.fz⟩
def uT.row {α:Type}{enc:α->Value}{l:List α} (h:uT lo enc w v l):aS enc w v l:=by
 obtain⟨g,rfl,h2,h3,h4,h5⟩:=h;exact .inr ⟨g,0,_,rfl,λj hj=>by rw[Nat.zero_add];exact h4 j hj⟩
structure mL (w:World) (g:Nat) (t:Tb):Prop where
 au:∃ S v,Au w g t.front t.back t.start (λj=>((t.cls[j]?.getD 0).toNat:Int)) S v/\(∀ j,j<256->S j=(t.acc[j]?.getD false))/\fV e8 w v t.next
theorem mL.below (h:mL w g t) (hb:Below w.heap.size w w'):mL w' g t:=by
 obtain⟨S,v,h1,h2,h3⟩:=h.au;exact⟨S,v,h1.of_block (hb.block g h1.lt),h2,h3.below hb⟩
def cell_of_block (e:w'.heap[g]?=w.heap[g]?) (o:Nat):w'.cell? ⟨g,o,none⟩=w.cell? ⟨g,o,none⟩:=by simp[cell?,e]
def gR (e:w'.heap[g]?=w.heap[g]?) (o:Nat):w'.frozen? ⟨g,o,none⟩=w.frozen? ⟨g,o,none⟩:=by simp[frozen?,e]
def eO (w:World) (x:Value) (T:TypeId):∀ j u,[x][j]?=some u->(w.alloc (.cells #[x] T)).cell? ((⟨w.heap.size,0,none⟩:Addr).add j)=some u:=by
 intro j u hj
 match j,hj with
 |0,hj=>simp at hj;subst hj;simp[Addr.add,go_sem]
variable (w g o v) in
def je:w.grownBy (w.setCell ⟨g,o,none⟩ v) (some g):=
 ⟨rfl,rfl,rfl,by simp[World.setCell],λk _ hk=>Zf _ _ _ _ (λe=>hk (by rw[e]))⟩
def lV {base n size:Nat}{e:TypeId}{xs:List Value} (h:w.ownsRow base e size v n xs):∃ a c,v=.slice a n c:=by
 rcases h.2 with⟨rfl,h0⟩|⟨q,d,i,rfl,_⟩
 .exact⟨none,0,by rw[h0]⟩
 .exact⟨_,d,rfl⟩
end Go.Proofs.YtbjabpodkaokjaaGreatDoor

import Derived.Test.YtbjabpodkaokjaaGreatDoorCC10
import Derived.Test.YtbjabpodkaokjaaGreatDoorCC12
set_option linter.all false
set_option maxHeartbeats 4000000
set_option maxRecDepth 100000
open List Nat Go.World Go.Proofs.Tryz
namespace Go.Proofs.YtbjabpodkaokjaaGreatDoor
open Go.RowKit
variable {lo:Nat}{w:World}{v:Value}{l:List Nat}{w':World}{u:Value}{k:List Nat}{B:Nat}
def pm {P:Program} (w:World) (t ty e:TypeId) (i:TypeInfo) (ht:P.underlying t=some (.slice e)) (hi:P.info? e=some i) (a:Option Addr) (n cap:Nat) (h:n<=cap):(Builtin.append_ #[t,t] ty #[.slice a n cap,.slice none 0 0]).run P w=.ok (.slice a n cap) w:=by
 cases a with
 |none=>simp[Builtin.append_,run_underlying ht,sizeOf,typeInfo,hi,Builtin.lenOf,Builtin.firstCells,h]
 |some a=>simp[Builtin.append_,run_underlying ht,sizeOf,typeInfo,hi,Builtin.lenOf,Builtin.firstCells,h,storeCells]
def lO (n:Nat):Value:=.int .i64 n
structure IL (lo:Nat) (w:World) (v:Value) (l:List Nat):Prop where
 o:w.ownsRow lo 3 1 v l.length (l.map lO)
 z:l=[]->v=.slice none 0 0
def IL.nil (lo:Nat) (w:World):IL lo w (.slice none 0 0) []:=⟨Zn _ _ _ _,λ_=>rfl⟩
def IL.form (h:IL lo w v l) (hl:l≠[]):∃ g a,v=.slice (some ⟨g,0,none⟩) l.length a/\lo<=g/\g<w.heap.size/\l.length<=a/\∀ j (hj:j<l.length),w.cell? ⟨g,j,none⟩=some (lO l[j]):=by
 rcases h.o.2 with⟨h1,h2⟩|⟨g,a,b,hv,hb,hg,c,d,e,ht⟩
 .exact(hl (eq_nil_of_length_eq_zero h2)).elim
 .refine⟨g,a,hv,hb,(ZC hg),c,λj hj=>?_⟩;have h3:b.toList[j]?=some (lO l[j]):=by
   have h4:(b.toList.take (l.length*1))[j]?=some (lO l[j]):=by rw[ht];simp[hj]
   rwa [getElem?_take_of_lt ω] at h4
  simp[cell?,hg]
  simpa using h3
def IL.keep (h:IL lo w v l) (hk:∀ b,v.ownBlock=some b->w'.heap[b]?=w.heap[b]?):IL lo w' v l:=by
 refine⟨⟨h.o.1,?_⟩,h.z⟩;rcases h.o.2 with⟨h1,h2⟩|⟨g,c,a,hv,hb,hg,r⟩
 .exact .inl ⟨h1,h2⟩
 .exact .inr ⟨g,c,a,hv,hb,by rw[hk g (by rw[hv];rfl)];exact hg,r⟩
def IL.below (h:IL lo w v l) (hb:Below w.heap.size w w'):IL lo w' v l:=h.keep (λb e=>by
 rcases h.o.2 with⟨h1,h2⟩|⟨g,c,a,hv,_,hg,_⟩
 .rw[h1] at e;cases e
 .rw[hv] at e;injection e with e;subst e
  exact hb.block _ (ZC hg))
def tR (h:IL lo w v l) (g:IL lo w u k) (hlo:lo<=w.heap.size) (hs:l.length+k.length<=1000000000) (ty:TypeId) :
  ∃ v' w',(Builtin.append_ #[40,40] ty #[v,u]).run prog w=.ok v' w'/\IL lo w' v' (l++k)/\((v'.ownBlock=v.ownBlock/\w.grownBy w' v.ownBlock)\/(v'.ownBlock=some w.heap.size/\w.grownBy w' none)):=by
 obtain⟨i,hi,hz,f,m⟩:=info_parts Tryz.infoI
 by_cases hk:k=[]
 .subst hk;rw[g.z rfl];have hf:∃ a n c,v=.slice a n c/\n<=c:=by
   rcases h.o.2 with⟨h1,_⟩|⟨g',c,p,hv,_,_,d,_⟩
   .exact⟨none,0,0,h1,zq⟩
   .exact⟨_,_,_,hv,d⟩
  obtain⟨a,n,c,hv,d⟩:=hf;refine⟨v,w,?_,by rw[append_nil];exact h,.inl ⟨rfl,⟨rfl,rfl,rfl,zq,λ_ _ _=>rfl⟩⟩⟩;rw[hv];exact pm w _ ty _ i underlying40 hi a n c d
 .obtain⟨b,c,hu,_,_,_,hc⟩:=g.form hk;rw[hu]
  obtain⟨g',o,w',hr,h2,h3,h4⟩:=fG (P:=prog) w 40 ty lo 3 i (.int .i64 0) 1 8 underlying40 hi hz f m rfl Zr v l.length (l.map lO) h.o ⟨b,0,none⟩ k.length c (k.map lO) χ (λj x hx=>by
   have hj:j<k.length:=by
    have:=(List.getElem?_eq_some_iff.1 hx).1
    simpa using this
   simp[hj] at hx;subst hx;have ha:(⟨b,0,none⟩:Addr).add j=⟨b,j,none⟩:=by unfold Addr.add;split<;>simp_all
   rw[ha]
   exact hc j hj) (by simp[lO,Value.oneCell']) (length_pos_iff.2 hk) Zs ω hlo w.heap.size rfl
  refine⟨_,w',hr,⟨by simpa using h2,λe=>by simp[hk] at e⟩,?_⟩;rcases h3 with⟨h3,h5⟩|⟨h3,h5⟩
  .exact .inl ⟨by rw[h3];rfl,by rw[h3];exact h5⟩
  .exact .inr ⟨by rw[<-h3];rfl,h5⟩
def dI {ops:Array Oper}{rest:List Oper}{o:Oper}{a:Act}{Q:Exit->Act->World->Prop} (hgd:o.guard=none) (s x:Operand)
  (ho:o.op=.call {callee:=.builtin .append,args:=#[s,x],argTypes:=#[40,40]})  (hv:a.eval s=v) (hu:a.eval x=u) (h:IL lo w v l) (g:IL lo w u k) (hlo:lo<=w.heap.size) (hs:l.length+k.length<=1000000000)
  (hk:∀ v' w',IL lo w' v' (l++k)->((v'.ownBlock=v.ownBlock/\w.grownBy w' v.ownBlock)\/(v'.ownBlock=some w.heap.size/\w.grownBy w' none))->wpList prog ops Q rest (a.put o.dst v') w'):wpList prog ops Q (o::rest) a w:=by
 refine wpList_plain hgd λK hK=>?_
 obtain⟨v',w',hr,h2,h3⟩:=tR h g hlo hs o.type;unfold Oper.wp execOp;simp only[ho,resolve,invoke,builtin,Sem.run_bind,Sem.run_pure,Result.andThen_ok,map_toArray,map_cons,map_nil,hv,hu,hr];exact hK _ _ (hk v' w' h2 h3)
def dQ {row:Option Nat} (h:w.grownBy w' row) (hr:∀ b,row=some b->B<=b) (hB:B<=w.heap.size):Below B w w':=
 ⟨h.os,h.tape,h.output,h.size,λk hk=>h.block k ω (λe=>by have:=hr k e.symm;omega)⟩
def tS {v v':Value} (hB:B<=w.heap.size) (hv:∀ b,v.ownBlock=some b->B<=b) (h:(v'.ownBlock=v.ownBlock/\w.grownBy w' v.ownBlock)\/(v'.ownBlock=some w.heap.size/\w.grownBy w' none)):Below B w w'/\∀ b,v'.ownBlock=some b->B<=b:=by
 rcases h with⟨h1,h2⟩|⟨h1,h2⟩
 .exact⟨dQ h2 hv hB,λb e=>hv b (by rw[<-h1];exact e)⟩
 .exact⟨dQ h2 (λb e=>by cases e) hB,λb e=>by rw[h1] at e;injection e with e;omega⟩
def jD (h:IL lo w v l) (g:IL lo w u k) (hlo:lo<=w.heap.size) (hs:l.length+k.length<=100000000) :
  Calls prog 90 #[v,u] w λe w'=>∃ v',e=.returned v'/\IL lo w' v' (l++k)/\(∀ b,v'.ownBlock=some b->w.heap.size<=b)/\Below w.heap.size w w':=by
 have HV:=zh h;have HU:=zh g
 go_enter func90,ntmps90
 go_upto_region 3 with(at_builtin;refine dI rfl (.tmp 6) (.tmp 7) rfl rfl rfl (IL.nil lo w) HV hlo σ ?_;intro v1 w1 h1 h2;have H1:Hid (IL lo w1 v1 l/\Below w.heap.size w w1/\∀ b,v1.ownBlock=some b->w.heap.size<=b):=⟨h1,tS zq (λb e=>by cases e) h2⟩)
 have a:=Zc hlo H1.2.1.size;go_wp2_with (at_builtin;refine dI rfl (.tmp 9) (.tmp 10) rfl rfl rfl H1.1 (HU.below H1.2.1) a ω ?_;intro v2 w2 h3 h4;have H2:Hid (IL lo w2 v2 (l++k)/\Below w.heap.size w1 w2/\∀ b,v2.ownBlock=some b->w.heap.size<=b):=⟨h3,tS H1.2.1.size H1.2.2 h4⟩)
 go_ret
 exact⟨v2,rfl,H2.1,H2.2.2,H1.2.1.trans H2.2.1⟩
end Go.Proofs.YtbjabpodkaokjaaGreatDoor

import Derived.Test.YtbjabpodkaokjaaGreatDoorCC02
import Derived.Lib.AppendStr
set_option linter.all false
set_option maxHeartbeats 4000000
set_option maxRecDepth 100000
open List Nat Go.World Go.Proofs.Tryz
namespace Go.Proofs.YtbjabpodkaokjaaGreatDoor.Sx
open Go.RowKit
variable {w:World}{b n:Nat}{w':World}{s:ByteArray}{c:UInt8}{t:List UInt8}{S:Nat->Prop}{size:Nat}{xs:List Value}{cs:List (List aO)}{base:Nat}{w3:World}{o:Nat}{S':Nat->Prop}{ps:List aO}{v:Value}{g:Nat}{e:Ending}{row:Option Nat}{p:aO}{w2 w4:World}{v':Value}{r r1 r2 r3 r4 r' r'':List UInt8}{d x:Int}{k:Nat}{least value x':Int}{begun:Bool}{y:Int}{X:Int->Prop}{ok tk:Bool}{l:Int}
variable (w b s r d x) in
def th (h:St w b s r d x) :
  Calls prog 219 #[.pointer (some ⟨b,0,none⟩)] w λe w'=>km w w' b s d x e (eH r):=by
 have f:=dD b s d x 94 r
 match r,h,f with
 |[],h,f=>exact(uO false w b s [] [] d x h f _ rfl).mono λe w' g=>g
 |a::t,h,f=>
  by_cases e:a=94
  .subst e;have e2:eH (94::t)=JX true (bd (t.length+1) (λ_=>false) t):=by
    simp only[eH];cases bd (t.length+1) (λ_=>false) t<;>rfl
   rw[e2];exact uO true w b s (94::t) t d x h f _ rfl
  .have e':(a==94)=false:=by simpa using e
   simp only[gP,dC,e,e',if_false] at f;have e2:eH (a::t)=JX false (bd ((a::t).length+1) (λ_=>false) (a::t)):=by
    unfold eH
    split
    .rename_i h';injection h' with h1 _;exact absurd h1 e
    .cases bd ((a::t).length+1) (λ_=>false) (a::t)<;>rfl
   rw[e2];exact uO false w b s (a::t) (a::t) d x h f _ rfl
variable (w b s d x) in
def wF (h:St w b s [] d x) :
  Calls prog 223 #[.pointer (some ⟨b,0,none⟩)] w λe w'=>e=.returned (.tuple #[.int .u8 0,.bool false])/\aQ w w' b s [] d x:=by
 go_enter func223,ntmps223
 go_wp2_with (go_at_call 172;refine(l_ _ b s d x h).mono ?_;rintro e w2 ⟨rfl,h2⟩)
 go_ret2
 exact⟨rfl,h2⟩
variable (w b s c t d x) in
def oJ (h:St w b s (c::t) d x) (hc:c=42\/c=43\/c=63\/c=123) :
  Calls prog 223 #[.pointer (some ⟨b,0,none⟩)] w λe w'=>e=.returned (.tuple #[.int .u8 c.toNat,.bool true])/\aQ w w' b s t d x:=by
 rcases hc with rfl|rfl|rfl|rfl
 all_goals
  go_enter func223,ntmps223
  go_wp2_with (go_at_call 172;refine(eh _ b s _ t d x h).mono ?_;rintro e w2 ⟨rfl,h2,a⟩;obtain⟨k,hk,k1,k2,kk⟩:=h2.open)
  go_ret2
  exact⟨rfl,kk _ a⟩
variable (w b s c t d x) in
def wG (h:St w b s (c::t) d x) (h1:c≠42) (h2:c≠43) (h3:c≠63) (h4:c≠123) :
  Calls prog 223 #[.pointer (some ⟨b,0,none⟩)] w λe w'=>e=.returned (.tuple #[.int .u8 0,.bool false])/\aQ w w' b s (c::t) d x:=by
 have n1:((c.toNat:Int)==42)=false:=by simpa using dP (b:=42) h1
 have n2:((c.toNat:Int)==43)=false:=by simpa using dP (b:=43) h2
 have n3:((c.toNat:Int)==63)=false:=by simpa using dP (b:=63) h3
 have n4:((c.toNat:Int)==123)=false:=by simpa using dP (b:=123) h4
 go_enter func223,ntmps223
 go_wp2_with (go_at_call 172;refine(eh _ b s _ t d x h).mono ?_;rintro e w2 ⟨rfl,h2⟩)
 go_ret2
 exact⟨rfl,h2⟩
def nH (value least:Int) (w:World) (v0:0<=value) (v1:value<=1000) (l0:0<=least) (l1:least<=30) :
  Calls prog 245 #[.int .i64 value,.int .i64 least] w λe w'=>e=.returned (.bool (bm value least))/\w'=w:=by
 go_enter func245,ntmps245
 go_wp2
 refine ce 0 (λa' w'=>w'=w/\∃ lo hi:Int,((lo=value/\hi=value)\/(lo=value*10/\hi=value*10+9/\value<=30/\value<least/\value≠0)\/(lo=value*10*10/\hi=(value*10+9)*10+9/\value*10<=30/\value*10+9<least/\value<least/\value≠0))/\∃ u9 u10 u11 u12 u13 u14 u15 u16 u17 u18 u19 u20,a'={tmps:=#[.int .i64 value,.int .i64 least,undef,undef,.bool false,.int .i64 lo,.int .i64 hi,.int .i64 value,.int .i64 value,u9,u10,u11,u12,u13,u14,u15,u16,u17,u18,u19,u20],defers:=[]}) (λa' _=>(1000000-intOf (a'.tmps.getD 5 undef)).toNat) rfl ?_ ?_
 .intro hp;have HP:Hid _:=hp;go_wp2
  go_step3
  exact ‹∀ a w,Code.wp _ _ _ a w->_› _ _ (HP _ _ ⟨rfl,value,value,.inl ⟨rfl,rfl⟩,_,_,_,_,_,_,_,_,_,_,_,_,rfl⟩)
 .rintro a' w' ⟨rfl,lo,hi,hd,u9,u10,u11,u12,u13,u14,u15,u16,u17,u18,u19,u20,rfl⟩;rcases hd with⟨e1,e2⟩|⟨rfl,rfl,q1,q2,q3⟩|⟨rfl,rfl,q0,q1,q2,q3⟩
  .obtain rfl:=e1.symm;obtain rfl:=e2.symm
   by_cases p1:30<value
   .go_wp2
    simp only[Exit.jump];go_ret
    exact⟨a_ (by simp[bm,p1]),rfl⟩
   .by_cases p2:least<=value
    .go_wp2
     simp only[Exit.jump];go_ret
     exact⟨a_ (by simp[bm,p1,p2]),rfl⟩
    .by_cases p3:value=0
     .have f:(value==0)=true:=by simpa using p3
      have P3:=zh p3;go_wp2
      simp only[Exit.jump];go_ret
      have:=P3;exact⟨a_ (by simp[bm,this];omega),rfl⟩
     .have f:(value==0)=false:=by simpa using p3
      go_wp2
      go_step3
      refine⟨rfl,⟨rfl,value*10,value*10+9,.inr (.inl ⟨rfl,rfl,ω,ω,p3⟩),_,_,_,_,_,_,_,_,_,_,_,_,rfl⟩,?_⟩;simp[intOf];omega
  .by_cases p1:30<value*10
   .go_wp2
    simp only[Exit.jump];go_ret
    exact⟨a_ (by simp[bm,p1,q3];omega),rfl⟩
   .by_cases p2:least<=value*10+9
    .go_wp2
     simp only[Exit.jump];go_ret
     exact⟨a_ (by simp[bm,p1,p2,q3];omega),rfl⟩
    .have f:(value==0)=false:=by simpa using q3
     go_wp2
     go_step3
     refine⟨rfl,⟨rfl,value*10*10,(value*10+9)*10+9,.inr (.inr ⟨rfl,rfl,ω,ω,q2,q3⟩),_,_,_,_,_,_,_,_,_,_,_,_,rfl⟩,?_⟩;simp[intOf];omega
  .have p1:30<value*10*10:=ω;go_wp2
   simp only[Exit.jump];go_ret
   exact⟨a_ (by simp[bm,q3];omega),rfl⟩
def eq (least value:Int) (begun:Bool):List UInt8->Option Int
 |c::_=>if 48<=c.toNat/\c.toNat<=57/\¬(begun=true/\value=0)/\bm (value*10+(c.toNat-48)) least=true then some (value*10+(c.toNat-48)) else none
 |[]=>none
variable (w b s r d x least value begun) in
def zk (h:St w b s r d x) (v0:0<=value) (v1:value<=30) (l0:0<=least) (l1:least<=30) :
  Calls prog 239 #[.pointer (some ⟨b,0,none⟩),.int .i64 value,.bool begun,.int .i64 least] w λe w'=>(∃ v:Int,(∀ z,eq least value begun r=some z->v=z)/\e=.returned (.tuple #[.int .i64 v,.bool (eq least value begun r).isSome]))/\aQ w w' b s r d x:=by
 match r with
 |[]=>
  go_enter func239,ntmps239
  go_wp2_with (go_at_call 172;refine(l_ _ b s d x h).mono ?_;rintro e w2 ⟨rfl,h2⟩)
  go_ret2
  exact⟨⟨0,λz hz=>by simp[eq] at hz,rfl⟩,h2⟩
 |c::t=>
  by_cases hd:48<=c.toNat/\c.toNat<=57
  .obtain⟨j,i⟩:=hd
   by_cases hb:begun=true/\value=0
   .have HL:Hid (eq least value begun (c::t)=none):=by show _=_;simp only[eq,hb];simp
    obtain⟨rfl,rfl⟩:=hb
    go_enter func239,ntmps239
    go_wp2_with (go_at_call 172;refine(eh _ b s c t d x h).mono ?_;rintro e w2 ⟨rfl,h2⟩)
    go_ret2
    rw[HL.out];exact⟨⟨0,λz hz=>by simp at hz,rfl⟩,h2⟩
   .have a:=λw=>nH (value*10+((c.toNat:Int)-48)) least w ω ω l0 l1
    obtain⟨B,hB⟩:=zx (bm (value*10+((c.toNat:Int)-48)) least);rw[<-hB] at a;have HL:Hid (eq least value begun (c::t)=if B=true then some (value*10+((c.toNat:Int)-48)) else none):=by
     show _=_;simp only[eq,j,i,<-hB]
     by_cases hBt:B=true
     .rw[Zi ⟨trivial,trivial,hb,hBt⟩,Zi hBt]
     .rw[Zh (λq=>hBt q.2.2.2),Zh hBt]
    clear hB
    cases begun with
    |false=>
     go_enter func239,ntmps239
     go_wp2_with (first|(go_at_call 245;refine(a _).mono ?_;rintro e w3 ⟨rfl,hw⟩;obtain rfl:=hw.symm)|(go_at_call 172;refine(eh _ b s c t d x h).mono ?_;rintro e w2 ⟨rfl,h2⟩))
     go_ret2
     rw[HL.out]
     cases B with
     |true=>exact⟨⟨_,λz hz=>by simpa using hz,rfl⟩,h2⟩
     |false=>exact⟨⟨_,λz hz=>by simp at hz,rfl⟩,h2⟩
    |true=>
     have hv:(value==0)=false:=by simpa using hb
     go_enter func239,ntmps239
     go_wp2_with (first|(go_at_call 245;refine(a _).mono ?_;rintro e w3 ⟨rfl,hw⟩;obtain rfl:=hw.symm)|(go_at_call 172;refine(eh _ b s c t d x h).mono ?_;rintro e w2 ⟨rfl,h2⟩))
     go_ret2
     rw[HL.out]
     cases B with
     |true=>exact⟨⟨_,λz hz=>by simpa using hz,rfl⟩,h2⟩
     |false=>exact⟨⟨_,λz hz=>by simp at hz,rfl⟩,h2⟩
  .have HL:Hid (eq least value begun (c::t)=none):=by
    show _=_;simp only[eq];rw[Zh (λq=>hd ⟨q.1,q.2.1⟩)]
   by_cases h48:c.toNat<48
   .have f:(c.toNat:Int)<48:=ω
    go_enter func239,ntmps239
    go_wp2_with (go_at_call 172;refine(eh _ b s c t d x h).mono ?_;rintro e w2 ⟨rfl,h2⟩)
    go_ret2
    rw[HL.out];exact⟨⟨0,λz hz=>by simp at hz,rfl⟩,h2⟩
   .have f:¬(c.toNat:Int)<48:=ω
    go_enter func239,ntmps239
    go_wp2_with (go_at_call 172;refine(eh _ b s c t d x h).mono ?_;rintro e w2 ⟨rfl,h2⟩)
    go_ret2
    rw[HL.out];exact⟨⟨0,λz hz=>by simp at hz,rfl⟩,h2⟩
def zl (w w':World) (b:Nat) (s:ByteArray) (d x:Int) (e:Ending):dN Int->Prop
 |.ok v r=>e=.returned (.tuple #[.int .i64 v,.bool true])/\0<=v/\v<=30/\aQ w w' b s r d x
 |.bad r=>(∃ v:Int,e=.returned (.tuple #[.int .i64 v,.bool false]))/\aQ w w' b s r d x
def zm {least value z:Int} (h:eq least value begun r=some z):∃ c t,r=c::t/\aK least value begun r=aK least z true t/\(0<=value->0<=z)/\z<=30:=by
 match r,h with
 |c::t,h=>
  simp only[eq] at h
  split at h
  .rename_i q;injection h with e;refine⟨c,t,rfl,?_,?_,?_⟩
   .rw[aK,Zi q,e]
   .intro hv;have:=q.1;omega
   .have:=q.2.2.2;rw[e] at this;unfold bm at this
    split at this
    .simp at this
    .omega
  .simp at h
def wH (h:eq least value begun r=none):aK least value begun r=if begun=true/\least<=value then .ok value r else .bad r:=by
 match r,h with
 |[],h=>rfl
 |c::t,h=>
  simp only[eq] at h
  split at h
  .simp at h
  .rename_i q;rw[aK,Zh q]
structure av (w w':World) (b:Nat) (s:ByteArray) (d x least:Int) (R0:dN Int) (value:Int) (begun:Bool) (r:List UInt8):Prop where
 st:St w' b s r d x
 rd:Rd b w w'
 v0:0<=value
 v1:value<=30
 heq:aK least value begun r=R0
variable (w b s r d x least) in
def zo (h:St w b s r d x) (l0:0<=least) (l1:least<=30) :
  Calls prog 232 #[.pointer (some ⟨b,0,none⟩),.int .i64 least] w λe w'=>zl w w' b s d x e (aK least 0 false r):=by
 obtain⟨R0,u⟩:∃ R0,aK least 0 false r=R0:=⟨_,rfl⟩
 rw[u]
 go_enter func232,ntmps232
 go_wp2
 refine ce 0 (λa' w'=>∃ value begun r',av w w' b s d x least R0 value begun r'/\∃ u8 u9 u10 u11 u12 u13 u14 u15 u16 u17 u18 u19 u20 u21 u22 u23 u24 u25 u26 u27 u28 u29 u30 u31 u32 u33 u34,a'={tmps:=#[.pointer (some ⟨b,0,none⟩),.int .i64 least,undef,undef,.int .i64 0,.bool false,.int .i64 value,.bool begun,u8,u9,u10,u11,u12,u13,u14,u15,u16,u17,u18,u19,u20,u21,u22,u23,u24,u25,u26,u27,u28,u29,u30,u31,u32,u33,u34],defers:=[]}) (λ_ w'=>leftOf b s w') rfl ?_ ?_
 .intro hp;have HP:Hid _:=hp;clear hp;go_wp2
  go_step3
  exact ‹∀ a w,Code.wp _ _ _ a w->_› _ _ (HP _ _ ⟨0,false,r,⟨h,Rd.refl _ _,ω,ω,u⟩,_,_,_,_,_,_,_,_,_,_,_,_,_,_,_,_,_,_,_,_,_,_,_,_,_,_,_,rfl⟩)
 .rintro a' w' ⟨value,begun,r',⟨j,q,v0,v1,m⟩,u8,u9,u10,u11,u12,u13,u14,u15,u16,u17,u18,u19,u20,u21,u22,u23,u24,u25,u26,u27,u28,u29,u30,u31,u32,u33,u34,rfl⟩;have i:=λw hw=>zk w b s r' d x least value begun hw v0 v1 l0 l1
  cases hL:eq least value begun r' with
  |none=>
   rw[hL] at i;have HQ:Hid (R0=if begun=true/\least<=value then .ok value r' else .bad r'):=by show _=_;rw[<-m,wH hL]
   clear m hL
   cases begun with
   |false=>
    go_wp2_with (go_at_call 239;refine(i _ j).mono ?_;rintro e w2 ⟨⟨v,-,rfl⟩,g2,f⟩)
    simp only[Exit.jump];go_ret2
    rw[HQ.out,Zh χ];exact⟨⟨_,rfl⟩,g2,q.trans f⟩
   |true=>
    by_cases hle:least<=value
    .go_wp2_with (go_at_call 239;refine(i _ j).mono ?_;rintro e w2 ⟨⟨v,-,rfl⟩,g2,f⟩)
     simp only[Exit.jump];go_ret2
     rw[HQ.out,Zi σ];exact⟨by simp[],v0,v1,g2,q.trans f⟩
    .go_wp2_with (go_at_call 239;refine(i _ j).mono ?_;rintro e w2 ⟨⟨v,-,rfl⟩,g2,f⟩)
     simp only[Exit.jump];go_ret2
     rw[HQ.out,Zh σ];exact⟨⟨value,σ⟩,g2,q.trans f⟩
  |some z=>
   rw[hL] at i;obtain⟨c,t,rfl,e1,e2,e3⟩:=zm hL;have HQ:Hid (aK least z true t=R0):=by show _=_;rw[<-m,e1]
   clear m hL e1;go_wp2_with (go_at_call 239;refine(i _ j).mono ?_;rintro e w2 ⟨⟨v,hv,rfl⟩,g2,f⟩;obtain rfl:=(hv z rfl).symm;obtain⟨k,hk,k1,k2,kk⟩:=g2.open)
   go_step3
   have g:=kk w (q.trans f);refine⟨rfl,⟨z,true,t,⟨g.1,g.2,e2 v0,e3,HQ⟩,_,_,_,_,_,_,_,_,_,_,_,_,_,_,_,_,_,_,_,_,_,_,_,_,_,_,_,rfl⟩,?_⟩;rw[g.1.left,j.left];simp
abbrev uP (b:Nat) (s:ByteArray) (d x:Int) (l:Int) (r r':List UInt8) (Q:Int->Prop) (ok:Bool):Prop:=
 ∀ w,St w b s r d x->Calls prog 232 #[.pointer (some ⟨b,0,none⟩),.int .i64 l] w λe w'=>∃ v:Int,Q v/\e=.returned (.tuple #[.int .i64 v,.bool ok])/\aQ w w' b s r' d x
def H8:dN Int->Int->Prop
 |.ok v _=>λu=>u=v/\0<=v/\v<=30
 |.bad _=>λ_=>True
theorem zl.q {R:dN Int} (g:zl w w' b s d x e R):∃ v:Int,H8 R v/\e=.returned (.tuple #[.int .i64 v,.bool R.isOk])/\aQ w w' b s R.rest d x:=by
 cases R with
 |ok v r=>exact⟨v,⟨rfl,g.2.1,g.2.2.1⟩,g.1,g.2.2.2⟩
 |bad r=>obtain⟨⟨v,g1⟩,g2⟩:=g;exact⟨v,trivial,g1,g2⟩
variable (b s d x l) in
def Bi (r:List UInt8) (l0:0<=l) (l1:l<=30):uP b s d x l r (aK l 0 false r).rest (H8 (aK l 0 false r)) (aK l 0 false r).isOk:=
 λw hw=>(zo w b s r d x l hw l0 l1).mono λ_ _ g=>g.q
variable (w b s r r1 d x) in
def EO (h:St w b s r d x) (Q:Int->Prop) (hn1:uP b s d x 0 r r1 Q false) :
  Calls prog 224 #[.pointer (some ⟨b,0,none⟩)] w λe w'=>e=.returned (.tuple #[.int .i64 0,.int .i64 0,.bool false])/\aQ w w' b s r1 d x:=by
 go_enter func224,ntmps224
 go_wp2_with (first|(go_at_call 232;refine(hn1 _ h).mono ?_;rintro e w1 ⟨v,hv,rfl,g1,a⟩))
 go_ret3
 exact⟨rfl,g1,a⟩
variable (w b s r r1 r2 r3 d x) in
def EP (h:St w b s r d x) (Q:Int->Prop) (tk:Bool) (hn1:uP b s d x 0 r r1 Q true) (ht1:g_ b s d x 44 r1 r2 false) (ht2:g_ b s d x 125 r2 r3 tk) :
  Calls prog 224 #[.pointer (some ⟨b,0,none⟩)] w λe w'=>(∃ v,Q v/\e=.returned (.tuple #[.int .i64 v,.int .i64 v,.bool tk]))/\aQ w w' b s r3 d x:=by
 go_enter func224,ntmps224
 go_wp2_with (first|(go_at_call 121;refine(ht2 _ g2).mono ?_;rintro e w3 ⟨rfl,g3,a⟩)|(go_at_call 121;refine(ht1 _ g1).mono ?_;rintro e w2 ⟨rfl,g2,f⟩)|(go_at_call 232;refine(hn1 _ h).mono ?_;rintro e w1 ⟨v,hv,rfl,g1,i⟩))
 go_ret3
 exact⟨⟨v,hv,rfl⟩,g3,(i.trans f).trans a⟩
variable (w b s r r1 r2 r3 d x) in
def EQ (h:St w b s r d x) (Q:Int->Prop) (hn1:uP b s d x 0 r r1 Q true) (ht1:g_ b s d x 44 r1 r2 true) (ht2:g_ b s d x 125 r2 r3 true) :
  Calls prog 224 #[.pointer (some ⟨b,0,none⟩)] w λe w'=>(∃ v,Q v/\e=.returned (.tuple #[.int .i64 v,.int .i64 (-1),.bool true]))/\aQ w w' b s r3 d x:=by
 go_enter func224,ntmps224
 go_wp2_with (first|(go_at_call 121;refine(ht2 _ g2).mono ?_;rintro e w3 ⟨rfl,g3,a⟩)|(go_at_call 121;refine(ht1 _ g1).mono ?_;rintro e w2 ⟨rfl,g2,f⟩)|(go_at_call 232;refine(hn1 _ h).mono ?_;rintro e w1 ⟨v,hv,rfl,g1,i⟩))
 go_ret3
 exact⟨⟨v,hv,rfl⟩,g3,(i.trans f).trans a⟩
variable (w b s r r1 r2 r3 r4 d x) in
def ER (h:St w b s r d x) (Q:Int->Prop) (Q2:Int->Int->Prop) (hn1:uP b s d x 0 r r1 Q true) (ht1:g_ b s d x 44 r1 r2 true) (ht2:g_ b s d x 125 r2 r3 false) (hn2:∀ v,Q v->uP b s d x v r3 r4 (Q2 v) false) :
  Calls prog 224 #[.pointer (some ⟨b,0,none⟩)] w λe w'=>(∃ v u:Int,e=.returned (.tuple #[.int .i64 v,.int .i64 u,.bool false]))/\aQ w w' b s r4 d x:=by
 go_enter func224,ntmps224
 go_wp2_with (first|(go_at_call 232;refine(hn2 v hv _ g3).mono ?_;rintro e w4 ⟨u,hu,rfl,g4,f⟩)|(go_at_call 121;refine(ht2 _ g2).mono ?_;rintro e w3 ⟨rfl,g3,a⟩)|(go_at_call 121;refine(ht1 _ g1).mono ?_;rintro e w2 ⟨rfl,g2,i⟩)|(go_at_call 232;refine(hn1 _ h).mono ?_;rintro e w1 ⟨v,hv,rfl,g1,j⟩))
 go_ret3
 exact⟨⟨v,u,rfl⟩,g4,((j.trans i).trans a).trans f⟩
variable (w b s) in
def ES (r r1 r2 r3 r4 r5:List UInt8) (d x:Int) (h:St w b s r d x) (Q:Int->Prop) (Q2:Int->Int->Prop) (tk:Bool) (hn1:uP b s d x 0 r r1 Q true) (ht1:g_ b s d x 44 r1 r2 true) (ht2:g_ b s d x 125 r2 r3 false) (hn2:∀ v,Q v->uP b s d x v r3 r4 (Q2 v) true) (ht3:g_ b s d x 125 r4 r5 tk) :
  Calls prog 224 #[.pointer (some ⟨b,0,none⟩)] w λe w'=>(∃ v u:Int,Q v/\Q2 v u/\e=.returned (.tuple #[.int .i64 v,.int .i64 u,.bool tk]))/\aQ w w' b s r5 d x:=by
 go_enter func224,ntmps224
 go_wp2_with (first|(go_at_call 121;refine(ht3 _ g4).mono ?_;rintro e w5 ⟨rfl,g5,f⟩)|(go_at_call 232;refine(hn2 v hv _ g3).mono ?_;rintro e w4 ⟨u,hu,rfl,g4,a⟩)|(go_at_call 121;refine(ht2 _ g2).mono ?_;rintro e w3 ⟨rfl,g3,m⟩)|(go_at_call 121;refine(ht1 _ g1).mono ?_;rintro e w2 ⟨rfl,g2,i⟩)|(go_at_call 232;refine(hn1 _ h).mono ?_;rintro e w1 ⟨v,hv,rfl,g1,j⟩))
 go_ret3
 exact⟨⟨v,u,hv,hu,rfl⟩,g5,(((j.trans i).trans m).trans a).trans f⟩
def J8 (w w':World) (b:Nat) (s:ByteArray) (d x:Int) (e:Ending):dN (Int×Int)->Prop
 |.ok p r=>e=.returned (.tuple #[.int .i64 p.1,.int .i64 p.2,.bool true])/\(0<=p.1/\p.1<=30/\-1<=p.2/\p.2<=30)/\aQ w w' b s r d x
 |.bad r=>(∃ u v:Int,e=.returned (.tuple #[.int .i64 u,.int .i64 v,.bool false]))/\aQ w w' b s r d x
variable (w b s r d x) in
def zp (h:St w b s r d x) :
  Calls prog 224 #[.pointer (some ⟨b,0,none⟩)] w λe w'=>J8 w w' b s d x e (dO r):=by
 have f:=Bi b s d x 0 r ω ω;obtain⟨R,hR⟩:=zx (dO r);rw[<-hR];unfold dO at hR
 cases hD:aK 0 0 false r with
 |bad r1=>
  rw[hD] at f hR
  simp only at hR
  subst hR;exact(EO w b s r r1 d x h _ f).mono λe w' g=>⟨⟨_,_,g.1⟩,g.2⟩
 |ok least r1=>
  rw[hD] at f hR;have i:=dD b s d x 44 r1
  simp only at hR
  cases h1:gP 44 r1 with
  |false=>
   have e1:dC 44 r1=r1:=by
    match r1,h1 with
    |[],_=>rfl
    |a::t,h1=>simp only[gP,beq_eq_false_iff_ne] at h1;simp[dC,h1]
   rw[h1,e1] at i;have j:=dD b s d x 125 r1;refine(EP w b s r r1 r1 _ d x h _ _ f i j).mono λe w' g=>?_
   obtain⟨⟨v,⟨rfl,hv⟩,rfl⟩,g⟩:=g
   match r1,h1,g with
   |[],_,g=>simp only at hR;subst hR;exact⟨⟨_,_,rfl⟩,g⟩
   |a::t,h1,g=>
    have ne:a≠44:=by simpa [gP] using h1
    by_cases e:a=125
    .subst e
     simp only at hR;subst hR
     exact⟨rfl,⟨hv.1,hv.2,σ,hv.2⟩,g⟩
    .have e':(a==125)=false:=by simpa using e
     simp only[gP,dC,e,e',if_false] at g ⊢
     split at hR
     .rename_i h';injection h' with h1 _;exact absurd h1 ne
     .rename_i h';injection h' with h1 _;exact absurd h1 ne
     .rename_i h';injection h' with h1 _;exact absurd h1 e
     .subst hR;exact⟨⟨_,_,rfl⟩,g⟩
  |true=>
   obtain⟨t1,rfl⟩:∃ t,r1=44::t:=by
    match r1,h1 with
    |a::t,hk=>exact⟨t,by have:a=44:=(by simpa [gP] using hk);rw[this]⟩
   rw[h1] at i;have e0:dC 44 (44::t1)=t1:=rfl;rw[e0] at i;have j:=dD b s d x 125 t1
   cases h2:gP 125 t1 with
   |true=>
    obtain⟨t2,rfl⟩:∃ t,t1=125::t:=by
     match t1,h2 with
     |a::t,hk=>exact⟨t,by have:a=125:=(by simpa [gP] using hk);rw[this]⟩
    rw[h2] at j
    simp only at hR;subst hR
    refine(EQ w b s r _ _ _ d x h _ f i j).mono λe w' g=>?_
    obtain⟨⟨v,⟨rfl,hv⟩,rfl⟩,g⟩:=g;exact⟨rfl,⟨hv.1,hv.2,χ,χ⟩,g⟩
   |false=>
    have e2:dC 125 t1=t1:=by
     match t1,h2 with
     |[],_=>rfl
     |a::t,h1=>simp only[gP,beq_eq_false_iff_ne] at h1;simp[dC,h1]
    rw[h2,e2] at j;have m:∀ v,H8 (.ok least (44::t1)) v->uP b s d x v t1 (aK least 0 false t1).rest ((λ_=>H8 (aK least 0 false t1)) v) (aK least 0 false t1).isOk:=by
     rintro v ⟨rfl,hv⟩;exact Bi b s d x v t1 hv.1 hv.2
    have q:R=(match aK least 0 false t1 with
       |.bad r''=>.bad r''
       |.ok most r''=>match r'' with
        |125::t'=>.ok (least,most) t'
        |_=>.bad r''):=by
     rw[hR]
     match t1,h2 with
     |[],_=>rfl
     |a::t,h2=>
      have ne:a≠125:=by simpa [gP] using h2
      split
      .rename_i h';injection h' with _ h';injection h' with h1 _;exact absurd h1 ne
      .rename_i h';injection h' with _ h';subst h';rfl
      .rename_i h';injection h' with h1 _;simp at h1
      .rename_i h1 h2 h3;exact absurd rfl (h2 _)
    subst q
    cases hD2:aK least 0 false t1 with
    |bad r4=>
     rw[hD2] at m;exact(ER w b s r _ _ _ r4 d x h _ _ f i j m).mono λe w' g=>g
    |ok most r4=>
     rw[hD2] at m;have z:=dD b s d x 125 r4;refine(ES w b s r _ _ _ r4 _ d x h _ _ _ f i j m z).mono λe w' g=>?_
     obtain⟨⟨v,u,⟨rfl,hv⟩,⟨rfl,hu⟩,rfl⟩,g⟩:=g
     match r4,g with
     |[],g=>exact⟨⟨_,_,rfl⟩,g⟩
     |a::t,g=>
      by_cases e:a=125
      .subst e;exact⟨rfl,⟨hv.1,hv.2,σ,hu.2⟩,g⟩
      .have e':(a==125)=false:=by simpa using e
       simp only[gP,dC,e,e',if_false] at g ⊢
       split
       .rename_i h';injection h' with h1 _;exact absurd h1 e
       .exact⟨⟨_,_,rfl⟩,g⟩
def bu {e:TypeId} (h:w.ownsRow base e size v n xs) (hr:Rd b w w') (hb:b<base):w'.ownsRow base e size v n xs:=by
 obtain⟨h1,h2⟩:=h;refine⟨h1,?_⟩;rcases h2 with h2|⟨g,i,a,hv,hg,hh,r⟩
 .exact .inl h2
 .have f:g<w.heap.size:=by
   rcases Nat.lt_or_ge g w.heap.size with q|q
   .exact q
   .simp[Array.getElem?_eq_none q] at hh
  exact .inr ⟨g,i,a,hv,hg,(hr.block g f ω).trans hh,r⟩
def Rd.grown {x w w':World} (h:Rd b x w) (hg:w.grownBy w' row) (hr:∀ k,row=some k->x.heap.size<=k):Rd b x w':=
 ⟨hg.os.trans h.os,hg.tape.trans h.tape,hg.output.trans h.output,Zc h.size hg.size,λk hk hb=>(hg.block k (Zd hk h.size) (λe=>by have:=hr k e.symm;omega)).trans (h.block k hk hb)⟩
def St.grown (h:St w b s r d x) (hg:w.grownBy w' row) (hr:∀ k,row=some k->b<k):St w' b s r d x:=
 h.keep (λk hk=>hg.block k (Nat.lt_of_le_of_lt hk h.lt) (λe=>by have:=hr k e.symm;omega)) hg.size
def cell_kept {cs:Array Value}{T:TypeId} (h:w3.heap[w.heap.size]?=(w.alloc (.cells cs T)).heap[w.heap.size]?) (o:Nat):w3.cell? ⟨w.heap.size,o,none⟩=cs[o]?:=by
 rw[heap_alloc_new] at h;simp[cell?,h]
def frozen_kept {cs:Array Value}{T:TypeId} (h:w3.heap[w.heap.size]?=(w.alloc (.cells cs T)).heap[w.heap.size]?) (o:Nat):w3.frozen? ⟨w.heap.size,o,none⟩=false:=by
 rw[heap_alloc_new] at h;simp[frozen?,h]
def cX (c:dw):List Value:=[.int .u8 c.sign.toNat,.int .i64 c.least,.int .i64 c.most]
abbrev kn (w:World) (base:Nat) (v:Value) (cs:List dw):Prop:=w.ownsRow base 282 3 v cs.length (cs.flatMap cX)
def Tryz.infoCnt:(prog.info? 282).map (λi=>(i.zero,i.size,i.bytes))=some (some (.agg #[.int .u8 0,.int .i64 0,.int .i64 0]),3,24):=κ
def wI (acc:List dw):dN (List dw)->dN (List dw)
 |.ok cs r=>.ok (acc++cs) r
 |.bad r=>.bad r
def J9 (w w':World) (b:Nat) (s:ByteArray) (d x:Int) (e:Ending):dN (List dw)->Prop
 |.ok cs r=>(∃ v,kn w' w.heap.size v cs/\e=.returned (.tuple #[v,.bool true]))/\aQ w w' b s r d x
 |.bad r=>e=.returned (.tuple #[.slice none 0 0,.bool false])/\aQ w w' b s r d x
structure K9 (w w':World) (b:Nat) (s:ByteArray) (d x:Int) (R0:dN (List dw)) (n:Nat) (acc:List dw) (v:Value) (r:List UInt8):Prop where
 st:St w' b s r d x
 rd:Rd b w w'
 own:kn w' w.heap.size v acc
 len:acc.length+r.length<=200
 hn:r.length<n
 heq:wI acc (aJ n r)=R0
variable (w b s r d x) in
def qg (h:St w b s r d x) (R0:dN (List dw)) (hR0:aJ (r.length+1) r=R0) :
  Calls prog 209 #[.pointer (some ⟨b,0,none⟩)] w λe w'=>J9 w w' b s d x e R0:=by
 have a2:=h.ne;have G:=h.lt;obtain⟨i0,hi,M,T,R⟩:=info_parts Tryz.infoCnt
 go_enter func209,ntmps209
 go_wp2
 refine ce 0 (λa' w'=>∃ n m v r',K9 w w' b s d x R0 n m v r'/\∃ u5 u6 u7 u8 u9 u10 u11 u12 u13 u14 u15 u16 u17 u18 u19 u20 u21 u22 u23 u24 u25 u26 u27 u28 u29 u30 u31 u32 u33,a'={tmps:=#[.pointer (some ⟨b,0,none⟩),undef,.slice none 0 0,.bool false,v,u5,u6,u7,u8,u9,u10,u11,u12,u13,u14,u15,u16,u17,u18,u19,u20,u21,u22,u23,u24,u25,u26,u27,u28,u29,u30,u31,u32,u33],defers:=[]}) (λ_ w'=>leftOf b s w') rfl ?_ ?_
 .intro hp;have HP:Hid _:=hp;clear hp;go_wp2
  go_step3
  refine ‹∀ a w,Code.wp _ _ _ a w->_› _ _ (HP.out _ _ ⟨r.length+1,[],.slice none 0 0,r,⟨h,Rd.refl _ _,Zn _ _ _ _,?_,lt_succ_self _,?_⟩,_,_,_,_,_,_,_,_,_,_,_,_,_,_,_,_,_,_,_,_,_,_,_,_,_,_,_,_,_,rfl⟩)
  .have:=h.len;simpa using this
  .rw[hR0];cases R0<;>rfl
 .rintro a' w' ⟨n,m,v,r',⟨B,E,L,z,hn,A⟩,u5,u6,u7,u8,u9,u10,u11,u12,u13,u14,u15,u16,u17,u18,u19,u20,u21,u22,u23,u24,u25,u26,u27,u28,u29,u30,u31,u32,u33,rfl⟩;obtain⟨n',rfl⟩:∃ n',n=n'+1:=⟨n-1,ω⟩
  have HO:=zh L;clear L
  match r',B,z,hn,A with
  |[],B,z,hn,A=>
   have HQ:Hid (R0=.ok m []):=by show _=_;rw[<-A];simp[aJ,wI]
   clear A;go_wp2_with (go_at_call 223;refine(wF _ b s d x B).mono ?_;rintro e w2 ⟨rfl,g2,i⟩)
   simp only[Exit.jump];go_ret2
   rw[HQ.out];exact⟨⟨v,bu HO.out i G,rfl⟩,g2,E.trans i⟩
  |c::t,B,z,hn,A=>
   by_cases hc:c=42\/c=43\/c=63
   .have O:c=42\/c=43\/c=63\/c=123:=by rcases hc with q|q|q<;>simp[q]
    have HQ:Hid (wI (m++[⟨c,0,0⟩]) (aJ n' t)=R0):=by
     show _=_;rw[<-A];simp only[aJ,hc,if_true]
     cases aJ n' t<;>simp[wI]
    have U:((c.toNat:Int)==123)=false:=by rcases hc with q|q|q<;>subst q<;>rfl
    clear A hc;have H:=λw hw=>oJ w b s c t d x hw O
    clear O;go_wp2_with (first|(go_at_call 223;refine(H _ B).mono ?_;rintro e w2 ⟨rfl,g2,i⟩;have Q:=(E.trans i).size)|(at_builtin;refine wpList_append_own_at _ rfl (.tmp 30) (.tmp 32) 229 rfl w.heap.size 282 i0 (.agg #[.int .u8 0,.int .i64 0,.int .i64 0]) 3 24 underlying229 hi M T R rfl Zr v m.length (m.flatMap cX) rfl (((bu HO.out i G).alloc _).alloc _) ⟨w2.heap.size+1,0,none⟩ 1 1 [.int .u8 c.toNat,.int .i64 0,.int .i64 0] rfl rfl ?c1 ?c2 ?c3 ?c4 ?c5 ?_))
    case c1=>
     intro j u hj
     match j,hj with
     |0,hj=>simp at hj;subst hj;simp[Addr.add,go_sem]
     |1,hj=>simp at hj;subst hj;simp[Addr.add,go_sem]
     |2,hj=>simp at hj;subst hj;simp[Addr.add,go_sem]
    case c2=>intro u hu;simp at hu;rcases hu with rfl|rfl<;>rfl
    case c3=>unfold maxLen;simp at z;omega
    case c4=>simp at z;omega
    case c5=>simp;omega
    intro v' w3 J F _ _;have D:∀ k,v.ownBlock=some k->w.heap.size<=k:=λk hk=>(HO.out.lt k hk).1
    have a1:Hid (kn w3 w.heap.size v' (m++[⟨c,0,0⟩])):=by
     show kn w3 w.heap.size v' (m++[⟨c,0,0⟩])
     simpa [kn,cX] using J
    have g3:=((g2.alloc _).alloc _).grown F (λk hk=>by have:=D k hk;omega);have C:=(((E.trans i).alloc _).alloc _).grown F D;clear J F;go_wp2
    go_step3
    refine⟨rfl,⟨n',m++[⟨c,0,0⟩],v',t,⟨g3,C,a1.out,by simp at z ⊢;omega,by simp at hn;omega,HQ.out⟩,_,_,_,_,_,_,_,_,_,_,_,_,_,_,_,_,_,_,_,_,_,_,_,_,_,_,_,_,_,rfl⟩,?_⟩;rw[g3.left,B.left];simp
   .by_cases hc3:c=123
    .subst hc3;have H:=λw hw=>oJ w b s 123 t d x hw χ
     have K:=λw hw=>zp w b s t d x hw
     cases hB:dO t with
     |bad r3=>
      rw[hB] at K;have HQ:Hid (R0=.bad r3):=by show _=_;rw[<-A];simp[aJ,hB,wI]
      clear A;go_wp2_with (first|(go_at_call 224;refine(K _ (g2.alloc _)).mono ?_;rintro e w3 ⟨⟨p,q,rfl⟩,g3,C⟩;have V:w2.heap.size<w3.heap.size:=(Zu C.size);have f:=C.block w2.heap.size χ ω;have k0:=cell_kept f 0;have k1:=cell_kept f 1;have k2:=cell_kept f 2;have kf:=frozen_kept f)|(go_at_call 223;refine(H _ B).mono ?_;rintro e w2 ⟨rfl,g2,i⟩;have Q:=(E.trans i).size))
      simp only[Exit.jump];go_ret2
      rw[HQ.out];exact⟨rfl,(Γ G g3),(by(repeat (with_reducible refine Rd.setNew ?_ φ _));exact((E.trans i).alloc _).trans C)⟩
     |ok pq r3=>
      obtain⟨p,q⟩:=pq;rw[hB] at K;have a4:=gA hB;have HQ:Hid (wI (m++[⟨123,p,q⟩]) (aJ n' r3)=R0):=by
       show _=_;rw[<-A];simp only[aJ,hB]
       cases aJ n' r3<;>simp[wI]
      clear A;go_wp2_with (first|(at_builtin;refine wpList_append_own_at _ rfl (.tmp 30) (.tmp 32) 229 rfl w.heap.size 282 i0 (.agg #[.int .u8 0,.int .i64 0,.int .i64 0]) 3 24 underlying229 hi M T R rfl Zr v m.length (m.flatMap cX) rfl ((ownsRow_setCell_other (ownsRow_setCell_other (bu ((bu HO.out i G).alloc _) C G) N _) N _).alloc _) ⟨w3.heap.size,0,none⟩ 1 1 [.int .u8 123,.int .i64 p,.int .i64 q] rfl rfl ?c1 ?c2 ?c3 ?c4 ?c5 ?_)|(go_at_call 224;refine(K _ (g2.alloc _)).mono ?_;rintro e w3 ⟨rfl,a3,g3,C⟩;have N:v.ownBlock≠some w2.heap.size:=(λe=>by have:=(HO.out.lt _ e).2;have:=i.size;omega);have V:w2.heap.size<w3.heap.size:=(Zu C.size);have f:=C.block w2.heap.size χ ω;have k0:=cell_kept f 0;have k1:=cell_kept f 1;have k2:=cell_kept f 2;have kf:=frozen_kept f)|(go_at_call 223;refine(H _ B).mono ?_;rintro e w2 ⟨rfl,g2,i⟩;have Q:=(E.trans i).size))
      case c1=>
       intro j u hj
       match j,hj with
       |0,hj=>simp at hj;subst hj;simp[Addr.add,go_sem]
       |1,hj=>simp at hj;subst hj;simp[Addr.add,go_sem]
       |2,hj=>simp at hj;subst hj;simp[Addr.add,go_sem]
      case c2=>intro u hu;simp at hu;rcases hu with rfl|rfl|rfl<;>rfl
      case c3=>unfold maxLen;simp at z;omega
      case c4=>simp at z;omega
      case c5=>simp;omega
      intro v' w4 I F _ _;have D:∀ k,v.ownBlock=some k->w.heap.size<=k:=λk hk=>(HO.out.lt k hk).1
      have W:Hid (kn w4 w.heap.size v' (m++[⟨123,p,q⟩])):=by
       show kn w4 w.heap.size v' (m++[⟨123,p,q⟩])
       simpa [kn,cX] using I
      have Y:St ((w3.setCell ⟨w2.heap.size,1,none⟩ (.int .i64 p)).setCell ⟨w2.heap.size,2,none⟩ (.int .i64 q)) b s r3 d x:=(g3.setCell σ _).setCell σ _;have P:Rd b w ((w3.setCell ⟨w2.heap.size,1,none⟩ (.int .i64 p)).setCell ⟨w2.heap.size,2,none⟩ (.int .i64 q)):=((((E.trans i).alloc _).trans C).setNew σ _).setNew σ _;have g4:=(Y.alloc _).grown F (λk hk=>by have:=D k hk;omega);have Z:=(P.alloc _).grown F D;clear I F;go_wp2
      go_step3
      refine⟨rfl,⟨n',m++[⟨123,p,q⟩],v',r3,⟨g4,Z,W.out,by simp at z ⊢;omega,by simp at hn;omega,HQ.out⟩,_,_,_,_,_,_,_,_,_,_,_,_,_,_,_,_,_,_,_,_,_,_,_,_,_,_,_,_,_,rfl⟩,?_⟩;rw[g4.left,B.left];simp;omega
    .have HQ:Hid (R0=.ok m (c::t)):=by show _=_;rw[<-A];simp[aJ,hc,hc3,wI]
     have H:=λw hw=>wG w b s c t d x hw (λe=>hc (.inl e)) (λe=>hc (.inr (.inl e))) (λe=>hc (.inr (.inr e))) hc3
     clear A hc hc3;go_wp2_with (go_at_call 223;refine(H _ B).mono ?_;rintro e w2 ⟨rfl,g2,i⟩)
     simp only[Exit.jump];go_ret2
     rw[HQ.out];exact⟨⟨v,bu HO.out i G,rfl⟩,g2,E.trans i⟩
def db (w:World) (S:Nat->Prop) (e:TypeId) (size:Nat) (v:Value) (n:Nat) (xs:List Value):Prop:=
 xs.length=n*size/\((v=.slice none 0 0/\n=0) \/
  ∃ g cap cur,v=.slice (some ⟨g,0,none⟩) n cap/\S g/\w.heap[g]?=some (.cells cur e (0,0))/\n<=cap/\cap<=maxLen/\cur.size=cap*size/\cur.toList.take (n*size)=xs)
def db.of_heap {e:TypeId} (h:db w S e size v n xs) (hS:∀ g,S g->g<w.heap.size->S' g/\w'.heap[g]?=w.heap[g]?):db w' S' e size v n xs:=by
 obtain⟨h1,h2⟩:=h;refine⟨h1,?_⟩;rcases h2 with h2|⟨g,i,f,hv,hg,hh,r⟩
 .exact .inl h2
 .have a:g<w.heap.size:=by
   rcases Nat.lt_or_ge g w.heap.size with q|q
   .exact q
   .simp[Array.getElem?_eq_none q] at hh
  exact .inr ⟨g,i,f,hv,(hS g hg a).1,((hS g hg a).2).trans hh,r⟩
def db.of_owns {e:TypeId} (h:w.ownsRow base e size v n xs):db w (λg=>base<=g/\g<w.heap.size) e size v n xs:=by
 obtain⟨h1,h2⟩:=h;refine⟨h1,?_⟩;rcases h2 with h2|⟨g,i,a,hv,hg,hh,r⟩
 .exact .inl h2
 .have f:g<w.heap.size:=by
   rcases Nat.lt_or_ge g w.heap.size with q|q
   .exact q
   .simp[Array.getElem?_eq_none q] at hh
  exact .inr ⟨g,i,a,hv,⟨hg,f⟩,hh,r⟩
mutual
/-- The six cells of a part. -/
def eY (w:World) (S:Nat->Prop):aO->List Value->Prop
 |.mk g B cs,cells=>∃ gv x0 x1 x2 x3 cv,cells=[gv,.int .u64 (x0:Nat),.int .u64 (x1:Nat),.int .u64 (x2:Nat),.int .u64 (x3:Nat),cv] /\
   (∃ vs,db w S 225 1 gv g.length vs/\cY w S g vs)/\Wd x0 x1 x2 x3 B/\db w S 282 3 cv cs.length (cs.flatMap cX)
/-- The cells of parts. -/
def dl (w:World) (S:Nat->Prop):List aO->List (List Value)->Prop
 |[],css=>css=[]
 |p::ps,css=>∃ c cs',css=c::cs'/\eY w S p c/\dl w S ps cs'
/-- The values of chains. -/
def cY (w:World) (S:Nat->Prop):List (List aO)->List Value->Prop
 |[],vs=>vs=[]
 |c::cs,vs=>∃ v vs',vs=v::vs'/\(∃ css,db w S 231 6 v c.length css.flatten/\dl w S c css)/\cY w S cs vs'
end
def mE (w:World) (S:Nat->Prop) (ps:List aO) (v:Value):Prop:=∃ css,db w S 231 6 v ps.length css.flatten/\dl w S ps css
def dU (w:World) (S:Nat->Prop) (cs:List (List aO)) (v:Value):Prop:=∃ vs,db w S 225 1 v cs.length vs/\cY w S cs vs
section
variable {w w':World}{S S':Nat->Prop}
mutual
theorem eY.of_heap (hS:∀ g,S g->g<w.heap.size->S' g/\w'.heap[g]?=w.heap[g]?):∀(p:aO) (cells:List Value),eY w S p cells->eY w' S' p cells
 |.mk g B cs,cells,h=>by
  simp only[eY] at h ⊢;obtain⟨gv,x0,x1,x2,x3,cv,he,⟨vs,hr,hv⟩,hw,hc⟩:=h;exact⟨gv,x0,x1,x2,x3,cv,he,⟨vs,hr.of_heap hS,cY.of_heap hS g vs hv⟩,hw,hc.of_heap hS⟩
theorem dl.of_heap (hS:∀ g,S g->g<w.heap.size->S' g/\w'.heap[g]?=w.heap[g]?):∀(ps:List aO) (css:List (List Value)),dl w S ps css->dl w' S' ps css
 |[],css,h=>by simpa only [dl] using h
 |p::ps,css,h=>by
  simp only[dl] at h ⊢;obtain⟨c,a,he,h1,h2⟩:=h;exact⟨c,a,he,eY.of_heap hS p c h1,dl.of_heap hS ps a h2⟩
theorem cY.of_heap (hS:∀ g,S g->g<w.heap.size->S' g/\w'.heap[g]?=w.heap[g]?):∀(cs:List (List aO)) (vs:List Value),cY w S cs vs->cY w' S' cs vs
 |[],vs,h=>by simpa only [cY] using h
 |c::cs,vs,h=>by
  simp only[cY] at h ⊢;obtain⟨v,f,he,⟨a,hr,h1⟩,h2⟩:=h;exact⟨v,f,he,⟨a,hr.of_heap hS,dl.of_heap hS c a h1⟩,cY.of_heap hS cs f h2⟩
end
end
theorem mE.of_heap (h:mE w S ps v) (hS:∀ g,S g->g<w.heap.size->S' g/\w'.heap[g]?=w.heap[g]?):mE w' S' ps v:=by
 obtain⟨a,hr,h1⟩:=h;exact⟨a,hr.of_heap hS,dl.of_heap hS ps a h1⟩
theorem dU.of_heap (h:dU w S cs v) (hS:∀ g,S g->g<w.heap.size->S' g/\w'.heap[g]?=w.heap[g]?):dU w' S' cs v:=by
 obtain⟨vs,hr,h1⟩:=h;exact⟨vs,hr.of_heap hS,cY.of_heap hS cs vs h1⟩
theorem dl.snoc {w:World}{S:Nat->Prop}{p:aO}{c:List Value} (hp:eY w S p c):∀ {ps:List aO}{css:List (List Value)},dl w S ps css->dl w S (ps++[p]) (css++[c])
 |[],css,h=>by
  simp only[dl] at h;subst h;simp only[nil_append,dl];exact⟨c,[],rfl,hp,rfl⟩
 |q::ps,css,h=>by
  simp only[dl] at h;obtain⟨c',a,rfl,h1,h2⟩:=h;simp only[cons_append,dl];exact⟨c',a++[c],rfl,h1,dl.snoc hp h2⟩
theorem cY.snoc {w:World}{S:Nat->Prop}{c:List aO}{v:Value} (hc:mE w S c v):∀ {cs:List (List aO)}{vs:List Value},cY w S cs vs->cY w S (cs++[c]) (vs++[v])
 |[],vs,h=>by
  simp only[cY] at h;subst h;simp only[nil_append,cY];exact⟨v,[],rfl,hc,rfl⟩
 |q::cs,vs,h=>by
  simp only[cY] at h;obtain⟨v',a,rfl,h1,h2⟩:=h;simp only[cons_append,cY];exact⟨v',a++[v],rfl,h1,cY.snoc hc h2⟩
abbrev dn (B:Nat) (w:World) (g:Nat):Prop:=B<=g/\g<w.heap.size
open Go.RowKit
theorem H9 (c:UInt8):bi c.toNat=lK c:=by
 have H:((List.range 256).all λn=>(λc:UInt8=>bi c.toNat==lK c) (UInt8.ofNat n))=true:=κ;exact eq_of_beq (p_ (λc:UInt8=>bi c.toNat==lK c) H c)
def ET (c:UInt8) (w:World) (hT:iV w):Calls prog 207 #[.int .u8 c.toNat] w λe w'=>e=.returned (.bool (lK c))/\w'=w:=by grind [H9,pX,Jr]
variable (w b s r d x) in
def ko (h:St w b s r d x) :
  Calls prog 195 #[.pointer (some ⟨b,0,none⟩)] w λe w'=>e=.returned (.bool (ci r))/\aQ w w' b s r d x:=by
 match r,h with
 |[],h=>
  go_enter func195,ntmps195
  go_wp2_with (go_at_call 172;refine(l_ _ b s d x h).mono ?_;rintro e w2 ⟨rfl,h2⟩)
  go_ret
  exact⟨rfl,h2⟩
 |c::t,h=>
  by_cases hc:c=46\/c=92\/c=91\/c=40
  .have HB:Hid (ci (c::t)=true):=by show _=_;rcases hc with q|q|q|q<;>simp[ci,q]
   rcases hc with rfl|rfl|rfl|rfl
   all_goals
    go_enter func195,ntmps195
    go_wp2_with (go_at_call 172;refine(eh _ b s _ t d x h).mono ?_;rintro e w2 ⟨rfl,h2⟩)
    go_ret
    exact⟨a_ HB.symm,h2⟩
  .have n1:((c.toNat:Int)==46)=false:=by simpa using dP (b:=46) (λe=>hc (.inl e))
   have n2:((c.toNat:Int)==92)=false:=by simpa using dP (b:=92) (λe=>hc (.inr (.inl e)))
   have n3:((c.toNat:Int)==91)=false:=by simpa using dP (b:=91) (λe=>hc (.inr (.inr (.inl e))))
   have n4:((c.toNat:Int)==40)=false:=by simpa using dP (b:=40) (λe=>hc (.inr (.inr (.inr e))))
   have hs:=λw hw=>ET c w hw
   obtain⟨B,hB⟩:=zx (lK c);have HB:Hid (ci (c::t)=!B):=by
    show _=_;rw[hB];simp only[not_or] at hc;simp[ci,hc.1,hc.2.1,hc.2.2.1,hc.2.2.2]
   rw[<-hB] at hs;clear hB hc
   go_enter func195,ntmps195
   go_wp2_with (first|(go_at_call 207;refine(hs _ h2.1.tb).mono ?_;rintro e w3 ⟨rfl,hw⟩;obtain rfl:=hw.symm)|(go_at_call 172;refine(eh _ b s _ t d x h).mono ?_;rintro e w2 ⟨rfl,h2⟩))
   go_ret
   exact⟨a_ HB.symm,h2⟩
def up (x d:Int) (k:Nat):Int:=max x (d+k)
def St.open2 (h:St w b s (c::t) d x) :
  ∃(k:Nat) (hk:k<s.size),s.size<=200/\s[k]=c/\w.cell? ⟨b,0,none⟩=some (.string s)/\w.cell? ⟨b,1,none⟩=some (.int .i64 k)/\w.frozen? ⟨b,1,none⟩=false/\∀ w0,Rd b w0 w->aQ w0 (w.setCell ⟨b,1,none⟩ (.int .i64 (k+1))) b s t d x:=by
 obtain⟨k,hr,hk,hs⟩:=h.rd;obtain⟨a,e1,e2⟩:=fh hs;have:=h.sz;refine⟨k,a,h.sz,e1,hr.c0,hr.c1,hr.fz 1,λw0 h0=>?_⟩;have:=hr.step (k+1);have g:=h.of_rd (k:=k+1) (d':=d) (x':=x) (r':=t) ⟨by simpa using this,(Rd.refl b w).setCell 1 _⟩ a e2;exact⟨by simpa using g.1,h0.setCell _ _⟩
abbrev ti:Obj:=.cells #[.slice none 0 0,.int .u64 0,.int .u64 0,.int .u64 0,.int .u64 0] 228
structure Z5 (w:World) (b:Nat):Prop where
 c0:w.cell? ⟨b,0,none⟩=some (.slice none 0 0)
 c1:w.cell? ⟨b,1,none⟩=some (.int .u64 0)
 c2:w.cell? ⟨b,2,none⟩=some (.int .u64 0)
 c3:w.cell? ⟨b,3,none⟩=some (.int .u64 0)
 c4:w.cell? ⟨b,4,none⟩=some (.int .u64 0)
 fz:∀ o,w.frozen? ⟨b,o,none⟩=false
def Z5.of_heap (h:Z5 w b) (hb:w'.heap[b]?=w.heap[b]?):Z5 w' b:=by
 have hc:∀ o,w'.cell? ⟨b,o,none⟩=w.cell? ⟨b,o,none⟩:=λo=>by simp[cell?,hb]
 have hf:∀ o,w'.frozen? ⟨b,o,none⟩=w.frozen? ⟨b,o,none⟩:=λo=>by simp[frozen?,hb]
 exact⟨(hc _).trans h.c0,(hc _).trans h.c1,(hc _).trans h.c2,(hc _).trans h.c3,(hc _).trans h.c4,λo=>(hf o).trans (h.fz o)⟩
def K_ (w:World):Z5 (w.alloc ti) w.heap.size:=by
 refine⟨?_,?_,?_,?_,?_,λo=>?_⟩<;>simp[go_sem]
def St.stepAt (h:St w b s (c::t) d x) (k:Nat) (hk:w.cell? ⟨b,1,none⟩=some (.int .i64 k)):St (w.setCell ⟨b,1,none⟩ (.int .i64 (k+1))) b s t d x:=by
 obtain⟨k',_,k1,_,kk⟩:=h.open;rw[k1] at hk;injection hk with e;injection e with _ e;have:=(kk w (Rd.refl _ _)).1;rw[e] at this;exact this
abbrev wJ (w:World) (b k nq:Nat):World:=(((w.alloc ti).drewN nq).setCell ⟨b,1,none⟩ (.int .i64 (k+1))).alloc ti
structure H_ (w w1:World) (b:Nat) (s:ByteArray) (t:List UInt8) (d x:Int):Prop where
 st:St w1 b s t d x
 rd:Rd b w w1
 z1:Z5 w1 w.heap.size
 z2:Z5 w1 (w.heap.size+1)
 sz:w1.heap.size=w.heap.size+2
def mF (h:St w b s (c::t) d x) (k:Nat) (hk:w.cell? ⟨b,1,none⟩=some (.int .i64 k)) (nq:Nat):H_ w (wJ w b k nq) b s t d x:=by
 have f:=h.ne;have i:=h.lt;have h1:=((h.alloc ti).drewN nq).stepAt k (by rw[cell?_drewN,ki i];exact hk);have a:((((w.alloc ti).drewN nq).setCell ⟨b,1,none⟩ (.int .i64 (k+1)))).heap.size=w.heap.size+1:=by simp[World.setCell]
 refine⟨h1.alloc _,((((Rd.refl b w).alloc _).drewN _).setCell _ _).alloc _,?_,?_,by rw[size_alloc,a]⟩
 .refine(K_ w).of_heap ?_;rw[Ze _ _ _ (by rw[a];omega),Zf _ _ _ _ f];rfl
 .have:=K_ (((w.alloc ti).drewN nq).setCell ⟨b,1,none⟩ (.int .i64 (k+1)));rw[a] at this;exact this
variable (w b s c t d x) in
def zu (h:St w b s (c::t) d x) (n1:((c.toNat:Int)==40)=false) (n2:((c.toNat:Int)==91)=false) (n3:((c.toNat:Int)==92)=false) (n4:((c.toNat:Int)==46)=false) :
  Calls prog 208 #[.pointer (some ⟨b,0,none⟩)] w λe w'=>(∃ x0 x1 x2 x3:Nat,Wd x0 x1 x2 x3 (ax c.toNat c.toNat)/\e=.returned (.tuple #[.agg #[.slice none 0 0,.int .u64 x0,.int .u64 x1,.int .u64 x2,.int .u64 x3],.bool true]))/\aQ w w' b s t d x:=by
 have A:=h.ne;have i:=h.lt;obtain⟨k,hk,B,j,k0,k1,kf,kk⟩:=h.open2;have f:=λnq=>mF h k k1 nq
 have HP:Hid _:=f;have z:(s[k].toNat:Int)=c.toNat:=by rw[j]
 go_enter func208,ntmps208
 go_wp2
 go_quiet (fail)
 go_wp2_with (go_at_call 221;refine(mB (.inl rfl) (wJ w b k nq) (w.heap.size+1) 1 c.toNat (λ_=>false) 0 0 0 0 c.toNat_lt ⟨K6,(HP nq).z2.c1,(HP nq).z2.c2,(HP nq).z2.c3,(HP nq).z2.c4,(HP nq).z2.fz⟩).mono ?_;rintro e w2 ⟨rfl,⟨y0,y1,y2,y3,hy⟩,a⟩;obtain⟨u,p0,p1,p2,p3,pz⟩:=hy;have q:=(HP nq).sz;have q0:=(a.cell 0 ω).trans (HP nq).z2.c0;obtain⟨z0,z1,z2,z3,z4,zf⟩:=(HP nq).z1.of_heap (w':=w2) (a.block w.heap.size (by rw[q];omega) ω))
 have g2:=(HP nq).st.four a ω;have m:=(HP nq).rd.four a ω;exact Zb (v:=.tuple #[.agg #[.slice none 0 0,.int .u64 y0,.int .u64 y1,.int .u64 y2,.int .u64 y3],.bool true]) (by simp[results,results208,go_sem,z0,z1,z2,z3,z4]) rfl ⟨⟨y0,y1,y2,y3,u.congr (λn=>by simp[orS]),rfl⟩,(υ i g2),(ς m)⟩
variable (w b s c t d x) in
def EU (h:St w b s (c::t) d x) (hc:c=46) :
  Calls prog 208 #[.pointer (some ⟨b,0,none⟩)] w λe w'=>(∃ x0 x1 x2 x3:Nat,Wd x0 x1 x2 x3 (λn=>!ax 10 10 n)/\e=.returned (.tuple #[.agg #[.slice none 0 0,.int .u64 x0,.int .u64 x1,.int .u64 x2,.int .u64 x3],.bool true]))/\aQ w w' b s t d x:=by
 subst hc;have F:=h.ne;have j:=h.lt;obtain⟨k,hk,G,m,k0,k1,kf,kk⟩:=h.open2;have i:=λnq=>mF h k k1 nq
 have HP:Hid _:=i;have E:(s[k].toNat:Int)=46:=by rw[m];rfl
 go_enter func208,ntmps208
 go_wp2
 go_quiet (fail)
 go_wp2_with (first|(go_at_call 222;refine(pZ w2 (w.heap.size+1) 1 (orS (λ_=>false) (ax 10 10)) ⟨y0,y1,y2,y3,hy⟩).mono ?_;rintro e w3 ⟨rfl,⟨v0,v1,v2,v3,hv⟩,a⟩;obtain⟨u,p0,p1,p2,p3,pz⟩:=hv;have q0:=(a.cell 0 ω).trans q;have C:=a.size;obtain⟨z0,z1,z2,z3,z4,zf⟩:=Z5.of_heap (w':=w3) z (a.block w.heap.size ω ω))|(go_at_call 221;refine(mB (.inl rfl) (wJ w b k nq) (w.heap.size+1) 1 10 (λ_=>false) 0 0 0 0 ω ⟨K6,(HP nq).z2.c1,(HP nq).z2.c2,(HP nq).z2.c3,(HP nq).z2.c4,(HP nq).z2.fz⟩).mono ?_;rintro e w2 ⟨rfl,⟨y0,y1,y2,y3,hy⟩,f⟩;have A:=(HP nq).sz;have D:=f.size;have q:=(f.cell 0 ω).trans (HP nq).z2.c0;have z:=(HP nq).z1.of_heap (w':=w2) (f.block w.heap.size (by rw[A];omega) ω)))
 have g3:=((HP nq).st.four f ω).four a ω;have B:=((HP nq).rd.four f ω).four a ω;exact Zb (v:=.tuple #[.agg #[.slice none 0 0,.int .u64 v0,.int .u64 v1,.int .u64 v2,.int .u64 v3],.bool true]) (by simp[results,results208,go_sem,z0,z1,z2,z3,z4]) rfl ⟨⟨v0,v1,v2,v3,u.congr (λn=>by simp[orS]),rfl⟩,(υ j g3),(ς B)⟩
variable (w b s c t r' d x) in
def mG {F:Nat}       (h:St w b s (c::t) d x) (hc:(c=91/\F=219)\/(c=92/\F=220)) (ok:Bool) (Q:Nat->Nat->Nat->Nat->Prop)
  (hcl:∀ w,St w b s t d x->Calls prog F #[.pointer (some ⟨b,0,none⟩)] w λe w'=>(∃ x0 x1 x2 x3:Nat,Q x0 x1 x2 x3/\e=.returned (.tuple #[wv x0 x1 x2 x3,.bool ok]))/\aQ w w' b s r' d x) :
  Calls prog 208 #[.pointer (some ⟨b,0,none⟩)] w λe w'=>(∃ x0 x1 x2 x3:Nat,Q x0 x1 x2 x3/\e=.returned (.tuple #[.agg #[.slice none 0 0,.int .u64 x0,.int .u64 x1,.int .u64 x2,.int .u64 x3],.bool ok]))/\aQ w w' b s r' d x:=by
 have u:=h.ne;have q:=h.lt;obtain⟨k,hk,B,i,k0,k1,kf,kk⟩:=h.open2;have f:=λnq=>mF h k k1 nq
 have HP:Hid _:=f;rcases hc with⟨rfl,rfl⟩|⟨rfl,rfl⟩
 all_goals
  first|have m:(s[k].toNat:Int)=91:=(by rw[i];rfl)|have m:(s[k].toNat:Int)=92:=(by rw[i];rfl)
  clear i f kk
  go_enter func208,ntmps208
  go_wp2
  go_quiet (fail)
  go_wp2_with ((first|go_at_call 219|go_at_call 220);refine(hcl (wJ w b k nq) (HP.out nq).st).mono ?_;rintro e w2 ⟨⟨x0,x1,x2,x3,hq,rfl⟩,g2,a⟩;have j:=(HP.out nq).sz;have A:=a.size;obtain⟨a0,a1,a2,a3,a4,af⟩:=(HP.out nq).z2.of_heap (w':=w2) (a.block (w.heap.size+1) (by rw[j];omega) ω);obtain⟨z0,z1,z2,z3,z4,zf⟩:=(HP.out nq).z1.of_heap (w':=w2) (a.block w.heap.size (by rw[j];omega) u))
  have z:=(HP.out nq).rd.trans a;exact Zb (v:=.tuple #[.agg #[.slice none 0 0,.int .u64 x0,.int .u64 x1,.int .u64 x2,.int .u64 x3],.bool ok]) (by simp[results,results208,go_sem,z0,z1,z2,z3,z4,a0,a1,a2,a3,a4]) rfl ⟨⟨x0,x1,x2,x3,hq,rfl⟩,(υ q g2),(ς z)⟩
variable (w b s c t r' d x X) in
def it (h:St w b s (c::t) d x) (hc:c=40) (ok:Bool) (Q:World->World->Value->Prop)
  (hcl:∀ w,St w b s t d x->Calls prog 218 #[.pointer (some ⟨b,0,none⟩)] w λe w'=>∃ x',X x'/\(∃ g0 n0 c0,Q w w' (.slice g0 n0 c0)/\e=.returned (.tuple #[.slice g0 n0 c0,.bool ok]))/\aQ w w' b s r' d x') :
  Calls prog 208 #[.pointer (some ⟨b,0,none⟩)] w λe w'=>∃ x',X x'/\(∃ g0 n0 c0 w1 w2,Q w1 w2 (.slice g0 n0 c0)/\Rd b w w1/\(∀ g,w.heap.size+2<=g->w'.heap[g]?=w2.heap[g]?)/\w1.heap.size=w.heap.size+2/\w'.heap.size=w2.heap.size/\e=.returned (.tuple #[.agg #[.slice g0 n0 c0,.int .u64 0,.int .u64 0,.int .u64 0,.int .u64 0],.bool ok]))/\aQ w w' b s r' d x':=by
 subst hc;have q:=h.ne;have j:=h.lt;obtain⟨k,hk,B,m,k0,k1,kf,kk⟩:=h.open2;have i:=λnq=>mF h k k1 nq
 have HP:Hid _:=i;have A:(s[k].toNat:Int)=40:=by rw[m];rfl
 go_enter func208,ntmps208
 go_wp2
 go_quiet (fail)
 go_wp2_with (go_at_call 218;refine(hcl (wJ w b k nq) (HP nq).st).mono ?_;rintro e w2 ⟨x',hX,⟨g0,n0,c0,hq,rfl⟩,g2,a⟩;have f:=(HP nq).sz;have z:=a.size;obtain⟨a0,a1,a2,a3,a4,af⟩:=(HP nq).z2.of_heap (w':=w2) (a.block (w.heap.size+1) (by rw[f];omega) ω);obtain⟨z0,z1,z2,z3,z4,zf⟩:=(HP nq).z1.of_heap (w':=w2) (a.block w.heap.size (by rw[f];omega) q))
 have u:=(HP nq).rd.trans a;refine Zb (v:=.tuple #[.agg #[.slice g0 n0 c0,.int .u64 0,.int .u64 0,.int .u64 0,.int .u64 0],.bool ok]) (by simp[results,results208,go_sem,z0,z1,z2,z3,z4,a4]) rfl ⟨x',hX,⟨g0,n0,c0,_,w2,hq,(HP nq).rd,?_,f,?_,rfl⟩,(υ j g2),(ς u)⟩
 .intro g hg
  (repeat rw[Zf _ _ _ _ σ])
 .simp[World.setCell]
def St.dep (h:St w b s r d x) (d':Int):St (w.setCell ⟨b,2,none⟩ (.int .i64 d')) b s r d' x:=by
 obtain⟨⟨k,⟨c0,c1,c2,c3,fz,lt⟩,hk,hs⟩,tb,b3,sz⟩:=h;refine⟨⟨k,⟨?_,?_,?_,?_,?_,?_⟩,hk,hs⟩,tb.of_block (λj hj=>Zf _ _ _ _ σ),b3,sz⟩<;>(try intro o)<;>simp[c0,c1,c2,c3,fz,lt,go_sem]
def St.deep (h:St w b s r d x) (x':Int):St (w.setCell ⟨b,3,none⟩ (.int .i64 x')) b s r d x':=by
 obtain⟨⟨k,⟨c0,c1,c2,c3,fz,lt⟩,hk,hs⟩,tb,b3,sz⟩:=h;refine⟨⟨k,⟨?_,?_,?_,?_,?_,?_⟩,hk,hs⟩,tb.of_block (λj hj=>Zf _ _ _ _ σ),b3,sz⟩<;>(try intro o)<;>simp[c0,c1,c2,c3,fz,lt,go_sem]
def St.cells (h:St w b s r d x):w.cell? ⟨b,2,none⟩=some (.int .i64 d)/\w.cell? ⟨b,3,none⟩=some (.int .i64 x)/\(∀ o,w.frozen? ⟨b,o,none⟩=false):=by
 obtain⟨⟨k,⟨c0,c1,c2,c3,fz,lt⟩,hk,hs⟩,tb,b3,sz⟩:=h;exact⟨c2,c3,fz⟩
abbrev C2 (b:Nat) (s:ByteArray) (r r':List UInt8) (d x:Int) (X:Int->Prop) (ok:Bool) (Q:World->World->Value->Prop):Prop:=
 ∀ w,St w b s r d x->Calls prog 122 #[.pointer (some ⟨b,0,none⟩)] w λe w'=>∃ x',X x'/\(∃ g0 n0 c0,Q w w' (.slice g0 n0 c0)/\e=.returned (.tuple #[.slice g0 n0 c0,.bool ok]))/\aQ w w' b s r' d x'
variable (w b s r r' d x y X) in
def Ia (h:St w b s r d x) (d0:0<=d) (d1:d<=200) (Q:World->World->Value->Prop) (hy:(x<d+1/\y=d+1)\/(¬ x<d+1/\y=x))
  (hcl:C2 b s r r' (d+1) y X false Q) :
  Calls prog 218 #[.pointer (some ⟨b,0,none⟩)] w λe w'=>∃ x',X x'/\e=.returned (.tuple #[.slice none 0 0,.bool false])/\aQ w w' b s r' d x':=by
 obtain⟨c2,c3,fz⟩:=h.cells;have f:Rd b w ((w.setCell ⟨b,2,none⟩ (.int .i64 (d+1))).setCell ⟨b,3,none⟩ (.int .i64 y)).drew:=(((Rd.refl b w).setCell 2 _).setCell 3 _).drew;rcases hy with⟨hx,hy⟩|⟨hx,hy⟩
 all_goals
  subst hy
  go_enter func218,ntmps218
  go_wp2
  go_region
  go_wp2_with (first|(go_at_call 122;refine(hcl _ ((h.dep (d+1)).deep _).drew).mono ?_;rintro e w2 ⟨x',hX,⟨g0,n0,c0,hq,rfl⟩,g2,a⟩;obtain⟨e2,e3,ef⟩:=g2.cells))
  go_ret2
  exact⟨x',hX,rfl,g2.dep d,((f.trans a).setCell _ _)⟩
variable (w b s r r' r'' d x y X) in
def Ib (h:St w b s r d x) (d0:0<=d) (d1:d<=200) (Q:World->World->Value->Prop) (hy:(x<d+1/\y=d+1)\/(¬ x<d+1/\y=x))
  (hcl:C2 b s r r' (d+1) y X true Q) (ht:∀ x',g_ b s d x' 41 r' r'' false) :
  Calls prog 218 #[.pointer (some ⟨b,0,none⟩)] w λe w'=>∃ x',X x'/\e=.returned (.tuple #[.slice none 0 0,.bool false])/\aQ w w' b s r'' d x':=by
 obtain⟨c2,c3,fz⟩:=h.cells;have f:Rd b w ((w.setCell ⟨b,2,none⟩ (.int .i64 (d+1))).setCell ⟨b,3,none⟩ (.int .i64 y)).drew:=(((Rd.refl b w).setCell 2 _).setCell 3 _).drew;rcases hy with⟨hx,hy⟩|⟨hx,hy⟩
 all_goals
  subst hy
  go_enter func218,ntmps218
  go_wp2
  go_region
  go_wp2_with (first|(go_at_call 121;refine(ht _ _ (g2.dep d)).mono ?_;rintro e w3 ⟨rfl,g3,i⟩)|(go_at_call 122;refine(hcl _ ((h.dep (d+1)).deep _).drew).mono ?_;rintro e w2 ⟨x',hX,⟨g0,n0,c0,hq,rfl⟩,g2,a⟩;obtain⟨e2,e3,ef⟩:=g2.cells))
  go_ret2
  exact⟨x',hX,rfl,g3,((f.trans a).setCell 2 _).trans i⟩
variable (w b s r r' r'' d x y X) in
def Ic (h:St w b s r d x) (d0:0<=d) (d1:d<=200) (Q:World->World->Value->Prop) (hy:(x<d+1/\y=d+1)\/(¬ x<d+1/\y=x))
  (hcl:C2 b s r r' (d+1) y X true Q) (ht:∀ x',g_ b s d x' 41 r' r'' true) :
  Calls prog 218 #[.pointer (some ⟨b,0,none⟩)] w λe w'=>∃ x',X x'/\(∃ g0 n0 c0 w1 w2,Q w1 w2 (.slice g0 n0 c0)/\Rd b w w1/\Rd b w2 w'/\w1.heap.size=w.heap.size/\e=.returned (.tuple #[.slice g0 n0 c0,.bool true]))/\aQ w w' b s r'' d x':=by
 obtain⟨c2,c3,fz⟩:=h.cells;have a:Rd b w ((w.setCell ⟨b,2,none⟩ (.int .i64 (d+1))).setCell ⟨b,3,none⟩ (.int .i64 y)).drew:=(((Rd.refl b w).setCell 2 _).setCell 3 _).drew;rcases hy with⟨hx,hy⟩|⟨hx,hy⟩
 all_goals
  subst hy
  go_enter func218,ntmps218
  go_wp2
  go_region
  go_wp2_with (first|(go_at_call 121;refine(ht _ _ (g2.dep d)).mono ?_;rintro e w3 ⟨rfl,g3,f⟩)|(go_at_call 122;refine(hcl _ ((h.dep (d+1)).deep _).drew).mono ?_;rintro e w2 ⟨x',hX,⟨g0,n0,c0,hq,rfl⟩,g2,i⟩;obtain⟨e2,e3,ef⟩:=g2.cells))
  go_ret2
  exact⟨x',hX,⟨g0,n0,c0,_,w2,hq,a,((Rd.refl b w2).setCell 2 _).trans f,by simp[World.setCell],rfl⟩,g3,((a.trans i).setCell 2 _).trans f⟩
abbrev EV:Obj:=.cells #[.slice none 0 0,.int .u64 0,.int .u64 0,.int .u64 0,.int .u64 0,.slice none 0 0] 231
structure Z6 (w:World) (b:Nat):Prop where
 c0:w.cell? ⟨b,0,none⟩=some (.slice none 0 0)
 c1:w.cell? ⟨b,1,none⟩=some (.int .u64 0)
 c2:w.cell? ⟨b,2,none⟩=some (.int .u64 0)
 c3:w.cell? ⟨b,3,none⟩=some (.int .u64 0)
 c4:w.cell? ⟨b,4,none⟩=some (.int .u64 0)
 c5:w.cell? ⟨b,5,none⟩=some (.slice none 0 0)
 fz:∀ o,w.frozen? ⟨b,o,none⟩=false
def Z6.of_heap (h:Z6 w b) (hb:w'.heap[b]?=w.heap[b]?):Z6 w' b:=by
 have hc:∀ o,w'.cell? ⟨b,o,none⟩=w.cell? ⟨b,o,none⟩:=λo=>by simp[cell?,hb]
 have hf:∀ o,w'.frozen? ⟨b,o,none⟩=w.frozen? ⟨b,o,none⟩:=λo=>by simp[frozen?,hb]
 exact⟨(hc _).trans h.c0,(hc _).trans h.c1,(hc _).trans h.c2,(hc _).trans h.c3,(hc _).trans h.c4,(hc _).trans h.c5,λo=>(hf o).trans (h.fz o)⟩
def La (w:World):Z6 (w.alloc EV) w.heap.size:=by
 refine⟨?_,?_,?_,?_,?_,?_,λo=>?_⟩<;>simp[go_sem]
abbrev EW (g0:Option Addr) (n0 c0 x0 x1 x2 x3:Nat):Value:=.agg #[.slice g0 n0 c0,.int .u64 x0,.int .u64 x1,.int .u64 x2,.int .u64 x3]
abbrev tj (g0:Option Addr) (n0 c0 x0 x1 x2 x3:Nat) (g1:Option Addr) (n1 c1:Nat):Value:=.agg #[.slice g0 n0 c0,.int .u64 x0,.int .u64 x1,.int .u64 x2,.int .u64 x3,.slice g1 n1 c1]
abbrev J_ (b:Nat) (s:ByteArray) (r r':List UInt8) (d x:Int) (X:Int->Prop) (ok:Bool) (Q:World->World->Value->Nat->Nat->Nat->Nat->Prop):Prop:=
 ∀ w,St w b s r d x->Calls prog 208 #[.pointer (some ⟨b,0,none⟩)] w λe w'=>∃ x',X x'/\(∃ g0 n0 c0 x0 x1 x2 x3,Q w w' (.slice g0 n0 c0) x0 x1 x2 x3/\e=.returned (.tuple #[EW g0 n0 c0 x0 x1 x2 x3,.bool ok]))/\aQ w w' b s r' d x'
abbrev Ka (b:Nat) (s:ByteArray) (r r':List UInt8) (d x:Int) (ok:Bool) (Q:World->World->Value->Prop):Prop:=
 ∀ w,St w b s r d x->Calls prog 209 #[.pointer (some ⟨b,0,none⟩)] w λe w'=>(∃ g0 n0 c0,Q w w' (.slice g0 n0 c0)/\e=.returned (.tuple #[.slice g0 n0 c0,.bool ok]))/\aQ w w' b s r' d x
variable (w b s r r' d x X) in
def Kb (h:St w b s r d x) (Q:World->World->Value->Nat->Nat->Nat->Nat->Prop) (ha:J_ b s r r' d x X false Q) :
  Calls prog 196 #[.pointer (some ⟨b,0,none⟩)] w λe w'=>∃ x',X x'/\e=.returned (.tuple #[tj none 0 0 0 0 0 0 none 0 0,.bool false])/\aQ w w' b s r' d x':=by
 have i:=h.ne;have f:=h.lt
 go_enter func196,ntmps196
 go_wp2_with (go_at_call 208;refine(ha _ (h.alloc _)).mono ?_;rintro e w1 ⟨x',hX,⟨g0,n0,c0,x0,x1,x2,x3,hq,rfl⟩,g1,a⟩;have j:w.heap.size<w1.heap.size:=(Zu a.size);obtain⟨d0,d1,d2,d3,d4,d5,dz⟩:=(La w).of_heap (a.block w.heap.size χ i))
 refine Zb (v:=.tuple #[tj none 0 0 0 0 0 0 none 0 0,.bool false]) ?_ rfl ?_
 .simp[results,results196,go_sem,d0,d1,d2,d3,d4,d5,j]
 .exact⟨x',hX,rfl,(υ f g1),(ς a.under)⟩
variable (w b s r r' r'' d x X ok) in
def EX (h:St w b s r d x) (Q:World->World->Value->Nat->Nat->Nat->Nat->Prop) (Q2:World->World->Value->Prop) (ha:J_ b s r r' d x X true Q) (hc:∀ x',Ka b s r' r'' d x' ok Q2) :
  Calls prog 196 #[.pointer (some ⟨b,0,none⟩)] w λe w'=>∃ x',X x'/\(∃ g0 n0 c0 x0 x1 x2 x3 g1 n1 c1 w1 w2,Q (w.alloc EV) w1 (.slice g0 n0 c0) x0 x1 x2 x3/\Q2 (w1.alloc (.cells #[.slice g0 n0 c0,.int .u64 (x0:Nat),.int .u64 (x1:Nat),.int .u64 (x2:Nat),.int .u64 (x3:Nat)] 228)) w2 (.slice g1 n1 c1)/\Rd b (w.alloc EV) w1/\Rd b w1 w2/\w1.heap.size<w2.heap.size/\(∀ g,w.heap.size<g->w'.heap[g]?=w2.heap[g]?)/\w'.heap.size=w2.heap.size/\e=.returned (.tuple #[tj g0 n0 c0 x0 x1 x2 x3 g1 n1 c1,.bool ok]))/\aQ w w' b s r'' d x':=by
 have j:=h.ne;have m:=h.lt
 go_enter func196,ntmps196
 go_wp2_with (first|(go_at_call 209;refine(hc _ _ (g1.alloc _)).mono ?_;rintro e w2 ⟨⟨q0,m0,e0,A,rfl⟩,g2,f⟩;have u:w1.heap.size<w2.heap.size:=(Zu f.size);have B:w.heap.size<w2.heap.size:=ω;obtain⟨d0,d1,d2,d3,d4,d5,dz⟩:=z.of_heap (w':=w2) ((f.block w.heap.size σ j).trans (Ze _ _ _ q));have a:=f.block w1.heap.size χ ω;have k0:=cell_kept a 0;have k1:=cell_kept a 1;have k2:=cell_kept a 2;have k3:=cell_kept a 3;have k4:=cell_kept a 4;simp at k0 k1 k2 k3 k4)|(go_at_call 208;refine(ha _ (h.alloc _)).mono ?_;rintro e w1 ⟨x',hX,⟨g0,n0,c0,x0,x1,x2,x3,hq,rfl⟩,g1,i⟩;have q:w.heap.size<w1.heap.size:=(Zu i.size);have z:=(La w).of_heap (i.block w.heap.size χ j)))
 have hr:=((i.under).alloc (.cells #[.slice g0 n0 c0,.int .u64 x0,.int .u64 x1,.int .u64 x2,.int .u64 x3] 228)).trans f;refine Zb (v:=.tuple #[tj g0 n0 c0 x0 x1 x2 x3 q0 m0 e0,.bool ok]) ?_ rfl ?_
 .simp[results,results196,go_sem,d0,d1,d2,d3,d4,d5]
 refine⟨x',hX,⟨g0,n0,c0,x0,x1,x2,x3,q0,m0,e0,w1,w2,hq,A,i,f.under,u,?_,?_,rfl⟩,(υ m g2),(ς hr)⟩
 .intro g hg
  (repeat rw[Zf _ _ _ _ σ])
 .simp[World.setCell]
structure Ju (d x:Int) (r:List UInt8):Prop where
 d0:0<=d
 dr:d+r.length<=200
 dx:d<=x
 x1:x<=200
def uQ (h:d<=x):up x d 0=x:=by unfold up;omega
theorem EY (x d:Int) (a b:Nat):up (up x d a) d b=up x d (max a b):=by unfold up;omega
def Jv (h:x<=200) (hk:d+k<=200):up x d k<=200:=by unfold up;omega
def Jw (x d:Int) (k:Nat):x<=up x d k:=by unfold up;omega
theorem EZ (x d:Int) (k:Nat):up (max x (d+1)) (d+1) k=up x d (1+k):=by unfold up;omega
def Kc (w w':World) (b:Nat) (s:ByteArray) (d x:Int) (e:Ending):dN (List (List aO)×(Nat->Bool))->Prop
 |.ok p r=>(∃ g0 n0 c0 x0 x1 x2 x3,dU w' (dn w.heap.size w') p.1 (.slice g0 n0 c0)/\Wd x0 x1 x2 x3 p.2/\e=.returned (.tuple #[EW g0 n0 c0 x0 x1 x2 x3,.bool true]))/\aQ w w' b s r d (up x d (eV p.1))
 |.bad r=>∃ x',(∃ g0 n0 c0 x0 x1 x2 x3,e=.returned (.tuple #[EW g0 n0 c0 x0 x1 x2 x3,.bool false]))/\aQ w w' b s r d x'
def E0 (w w':World) (b:Nat) (s:ByteArray) (d x:Int) (e:Ending):dN (List (List aO))->Prop
 |.ok cs r=>(∃ g0 n0 c0,dU w' (dn w.heap.size w') cs (.slice g0 n0 c0)/\e=.returned (.tuple #[.slice g0 n0 c0,.bool true]))/\aQ w w' b s r d (up x d (aZ cs))
 |.bad r=>∃ x',e=.returned (.tuple #[.slice none 0 0,.bool false])/\aQ w w' b s r d x'
def E3 (w w':World) (b:Nat) (s:ByteArray) (d x:Int) (e:Ending):dN (List aO)->Prop
 |.ok ps r=>(∃ g0 n0 c0,mE w' (dn w.heap.size w') ps (.slice g0 n0 c0)/\e=.returned (.tuple #[.slice g0 n0 c0,.bool true]))/\aQ w w' b s r d (up x d (dM ps))
 |.bad r=>∃ x',e=.returned (.tuple #[.slice none 0 0,.bool false])/\aQ w w' b s r d x'
def Kd (w w':World) (b:Nat) (s:ByteArray) (d x:Int) (e:Ending):dN aO->Prop
 |.ok p r=>(∃ g0 n0 c0 x0 x1 x2 x3 g1 n1 c1,eY w' (dn w.heap.size w') p [.slice g0 n0 c0,.int .u64 (x0:Nat),.int .u64 (x1:Nat),.int .u64 (x2:Nat),.int .u64 (x3:Nat),.slice g1 n1 c1]/\e=.returned (.tuple #[tj g0 n0 c0 x0 x1 x2 x3 g1 n1 c1,.bool true]))/\aQ w w' b s r d (up x d (oy p))
 |.bad r=>∃ x',(∃ g0 n0 c0 x0 x1 x2 x3 g1 n1 c1,e=.returned (.tuple #[tj g0 n0 c0 x0 x1 x2 x3 g1 n1 c1,.bool false]))/\aQ w w' b s r d x'
def gC (n:Nat):Prop:=∀ w b s r d x,St w b s r d x->Ju d x r->4*r.length+4<=n->Calls prog 122 #[.pointer (some ⟨b,0,none⟩)] w λe w'=>E0 w w' b s d x e (ay n r)
def qh (n:Nat):Prop:=∀ w b s r d x,St w b s r d x->Ju d x r->4*r.length+3<=n->Calls prog 173 #[.pointer (some ⟨b,0,none⟩)] w λe w'=>E3 w w' b s d x e (bB n r)
def iM (n:Nat):Prop:=∀ w b s r d x,St w b s r d x->Ju d x r->4*r.length+2<=n->ci r=true->Calls prog 196 #[.pointer (some ⟨b,0,none⟩)] w λe w'=>Kd w w' b s d x e (dA n r)
def qi (n:Nat):Prop:=∀ w b s r d x,St w b s r d x->Ju d x r->4*r.length+1<=n->ci r=true->Calls prog 208 #[.pointer (some ⟨b,0,none⟩)] w λe w'=>Kc w w' b s d x e (bV n r)
def oK (h:ay n r=.ok cs r'):cs≠[]:=by
 cases n with
 |zero=>simp[ay] at h
 |succ n=>
  simp only[ay] at h
  split at h
  .simp at h
  .split at h
   .split at h
    .injection h with e _;subst e;simp
    .simp at h
   .injection h with e _;subst e;simp
def E4 (h:cs≠[]):eV cs=1+aZ cs:=by
 cases cs with
 |nil=>exact absurd rfl h
 |cons c cs=>rfl
def nJ (h:gP c r=false):dC c r=r/\∀ t,r≠c::t:=by
 match r,h with
 |[],_=>exact⟨rfl,λt=>χ⟩
 |a::t,h=>
  have ne:a≠c:=by simpa [gP] using h
  exact⟨by simp[dC,ne],λt' e=>by injection e with e _;exact ne e⟩
def wK (h:gP c r=true):r=c::dC c r:=by
 match r,h with
 |a::t,h=>
  have e:a=c:=by simpa [gP] using h
  subst e;simp[dC]
variable (w S) in
def ld:dU w S [] (.slice none 0 0):=⟨[],⟨χ,.inl ⟨rfl,rfl⟩⟩,by simp[cY]⟩
def C3 (n:Nat) (hK:gC n) (w:World) (b:Nat) (s:ByteArray) (t:List UInt8) (d x:Int) (h:St w b s t d x) (d0:0<=d) (dr:d+1+t.length<=200) (dx:d<=x) (x1:x<=200) (hn:4*t.length+4<=n) :
  Calls prog 218 #[.pointer (some ⟨b,0,none⟩)] w λe w'=>match ay n t with
   |.bad r'=>∃ x',e=.returned (.tuple #[.slice none 0 0,.bool false])/\aQ w w' b s r' d x'
   |.ok cs r'=>match gP 41 r' with
    |true=>(∃ g0 n0 c0,dU w' (dn w.heap.size w') cs (.slice g0 n0 c0)/\e=.returned (.tuple #[.slice g0 n0 c0,.bool true]))/\aQ w w' b s (dC 41 r') d (up x d (eV cs))
    |false=>∃ x',e=.returned (.tuple #[.slice none 0 0,.bool false])/\aQ w w' b s r' d x':=by
 have hk:=λw hw=>hK w b s t (d+1) (max x (d+1)) hw ⟨ω,ω,ω,ω⟩ hn
 have hy:(x<d+1/\max x (d+1)=d+1)\/(¬ x<d+1/\max x (d+1)=x):=ω
 cases hR:ay n t with
 |bad r'=>
  refine(Ia w b s t r' d x (max x (d+1)) (λ_=>True) h d0 ω (λ_ _ _=>True) hy (λw hw=>(hk w hw).mono λe w' g=>?_)).mono λe w' g=>?_
  .rw[hR] at g;obtain⟨x',he,g⟩:=g;exact⟨x',trivial,⟨_,_,_,trivial,he⟩,g⟩
  .obtain⟨x',-,he,g⟩:=g;exact⟨x',he,g⟩
 |ok cs r'=>
  have f:C2 b s t r' (d+1) (max x (d+1)) (λy=>y=up x d (eV cs)) true (λw w' v=>dU w' (dn w.heap.size w') cs v):=λw hw=>(hk w hw).mono λe w' g=>by
   rw[hR] at g;obtain⟨⟨g0,n0,c0,hq,he⟩,g⟩:=g;refine⟨_,rfl,⟨g0,n0,c0,hq,he⟩,?_⟩;rw[E4 (oK hR),<-EZ];exact g
  have ht:=λx'=>dD b s d x' 41 r'
  cases hm:gP 41 r' with
  |true=>
   rw[hm] at ht;refine(Ic w b s t r' _ d x (max x (d+1)) _ h d0 ω _ hy f ht).mono λe w' g=>?_
   obtain⟨x',rfl,⟨g0,n0,c0,w1,w2,hq,q,a,m,he⟩,g⟩:=g;simp only[hm];refine⟨⟨g0,n0,c0,hq.of_heap (λj hj hlt=>?_),he⟩,g⟩;have i:=h.lt;exact⟨⟨by have:=hj.1;omega,Zd hj.2 a.size⟩,a.block j hlt (η hj.1)⟩
  |false=>
   obtain⟨e1,-⟩:=nJ hm;rw[hm,e1] at ht;refine(Ib w b s t r' r' d x (max x (d+1)) _ h d0 ω _ hy f ht).mono λe w' g=>?_
   simp only[hm];obtain⟨x',-,he,g⟩:=g;exact⟨x',he,g⟩
def C4 (n:Nat) (hK:gC n):qi (n+1):=by
 intro w b s r d x h hl hn hb
 match r,h,hl,hn,hb with
 |c::t,h,hl,hn,hb=>
  obtain⟨d0,dr,dx,x1⟩:=hl;have a:up x d 0=x:=uQ dx;simp only[length_cons] at dr hn
  by_cases c40:c=40
  .have hg:=λw (hw:St w b s t d x)=>C3 n hK w b s t d x hw d0 ω dx x1 ω
   cases hR:ay n t with
   |bad r'=>
    have hP:bV (n+1) (c::t)=.bad r':=by simp only[bV,c40,if_true,hR]
    rw[hP];refine(it w b s c t r' d x (λ_=>True) h c40 false (λ_ _ _=>True) (λw hw=>(hg w hw).mono λe w' g=>?_)).mono λe w' g=>?_
    .rw[hR] at g;obtain⟨x',he,g⟩:=g;exact⟨x',trivial,⟨_,_,_,trivial,he⟩,g⟩
    .obtain⟨x',-,⟨g0,n0,c0,w1,w2,-,-,-,-,-,he⟩,g⟩:=g;exact⟨x',⟨g0,n0,c0,0,0,0,0,he⟩,g⟩
   |ok cs r'=>
    cases hm:gP 41 r' with
    |true=>
     have e1:=wK hm;have hP:bV (n+1) (c::t)=.ok (cs,λ_=>false) (dC 41 r'):=by
      rw[e1] at hR;simp only[bV,c40,if_true,hR]
     rw[hP];refine(it w b s c t (dC 41 r') d x (λy=>y=up x d (eV cs)) h c40 true (λw w' v=>dU w' (dn w.heap.size w') cs v) (λw hw=>(hg w hw).mono λe w' g=>?_)).mono λe w' g=>?_
     .rw[hR] at g;simp only[hm] at g;obtain⟨⟨g0,n0,c0,hq,he⟩,g⟩:=g;exact⟨_,rfl,⟨g0,n0,c0,hq,he⟩,g⟩
     .obtain⟨x',rfl,⟨g0,n0,c0,w1,w2,hq,m,hh,i,f,he⟩,g⟩:=g;refine⟨⟨g0,n0,c0,0,0,0,0,hq.of_heap (λj hj hlt=>?_),K6,he⟩,g⟩;have:=hj.1;exact⟨⟨ω,ω⟩,hh j ω⟩
    |false=>
     obtain⟨-,e1⟩:=nJ hm;have hP:bV (n+1) (c::t)=.bad r':=by
      simp only[bV,c40,if_true,hR]
     rw[hP];refine(it w b s c t r' d x (λ_=>True) h c40 false (λ_ _ _=>True) (λw hw=>(hg w hw).mono λe w' g=>?_)).mono λe w' g=>?_
     .rw[hR] at g;simp only[hm] at g;obtain⟨x',he,g⟩:=g;exact⟨x',trivial,⟨_,_,_,trivial,he⟩,g⟩
     .obtain⟨x',-,⟨g0,n0,c0,w1,w2,-,-,-,-,-,he⟩,g⟩:=g;exact⟨x',⟨g0,n0,c0,0,0,0,0,he⟩,g⟩
  .by_cases c91:c=91
   .skip
    cases hR:eH t with
    |bad r'=>
     have hP:bV (n+1) (c::t)=.bad r':=by simp only[bV,hR];rw[Zh c40,Zi c91]
     rw[hP];refine(mG w b s c t r' d x h (.inl ⟨c91,rfl⟩) false (λ_ _ _ _=>True) (λw hw=>(th w b s t d x hw).mono λe w' g=>?_)).mono λe w' g=>?_
     .rw[hR] at g;obtain⟨⟨x0,x1,x2,x3,he⟩,g⟩:=g;exact⟨⟨x0,x1,x2,x3,trivial,he⟩,g⟩
     .obtain⟨⟨x0,x1,x2,x3,-,he⟩,g⟩:=g;exact⟨x,⟨none,0,0,x0,x1,x2,x3,he⟩,g⟩
    |ok S r'=>
     have hP:bV (n+1) (c::t)=.ok ([],S) r':=by simp only[bV,hR];rw[Zh c40,Zi c91]
     rw[hP];refine(mG w b s c t r' d x h (.inl ⟨c91,rfl⟩) true (λx0 x1 x2 x3=>Wd x0 x1 x2 x3 S) (λw hw=>(th w b s t d x hw).mono λe w' g=>?_)).mono λe w' g=>?_
     .rw[hR] at g;exact g
     .obtain⟨⟨x0,x1,x2,x3,hw,he⟩,g⟩:=g;exact⟨⟨none,0,0,x0,x1,x2,x3,ld _ _,hw,he⟩,by simpa [eV,a] using g⟩
   .by_cases c92:c=92
    .skip
     cases hR:eo t with
     |bad r'=>
      have hP:bV (n+1) (c::t)=.bad r':=by simp only[bV,hR];rw[Zh c40,Zh c91,Zi c92]
      rw[hP];refine(mG w b s c t r' d x h (.inr ⟨c92,rfl⟩) false (λ_ _ _ _=>True) (λw hw=>(qc w b s t d x hw).mono λe w' g=>?_)).mono λe w' g=>?_
      .rw[hR] at g;obtain⟨⟨x0,x1,x2,x3,he⟩,g⟩:=g;exact⟨⟨x0,x1,x2,x3,trivial,he⟩,g⟩
      .obtain⟨⟨x0,x1,x2,x3,-,he⟩,g⟩:=g;exact⟨x,⟨none,0,0,x0,x1,x2,x3,he⟩,g⟩
     |ok S r'=>
      have hP:bV (n+1) (c::t)=.ok ([],S) r':=by simp only[bV,hR];rw[Zh c40,Zh c91,Zi c92]
      rw[hP];refine(mG w b s c t r' d x h (.inr ⟨c92,rfl⟩) true (λx0 x1 x2 x3=>Wd x0 x1 x2 x3 S) (λw hw=>(qc w b s t d x hw).mono λe w' g=>?_)).mono λe w' g=>?_
      .rw[hR] at g;exact g
      .obtain⟨⟨x0,x1,x2,x3,hw,he⟩,g⟩:=g;exact⟨⟨none,0,0,x0,x1,x2,x3,ld _ _,hw,he⟩,by simpa [eV,a] using g⟩
    .by_cases c46:c=46
     .have hP:bV (n+1) (c::t)=.ok ([],λn=>!ax 10 10 n) t:=by simp only[bV];rw[Zh c40,Zh c91,Zh c92,Zi c46]
      rw[hP];refine(EU w b s c t d x h c46).mono λe w' g=>?_
      obtain⟨⟨x0,x1,x2,x3,hw,he⟩,g⟩:=g;exact⟨⟨none,0,0,x0,x1,x2,x3,ld _ _,hw,he⟩,by simpa [eV,a] using g⟩
     .have hP:bV (n+1) (c::t)=.ok ([],ax c.toNat c.toNat) t:=by simp only[bV];rw[Zh c40,Zh c91,Zh c92,Zh c46]
      rw[hP];have m1:((c.toNat:Int)==40)=false:=by simpa using dP (b:=40) c40
      have m2:((c.toNat:Int)==91)=false:=by simpa using dP (b:=91) c91
      have m3:((c.toNat:Int)==92)=false:=by simpa using dP (b:=92) c92
      have m4:((c.toNat:Int)==46)=false:=by simpa using dP (b:=46) c46
      refine(zu w b s c t d x h m1 m2 m3 m4).mono λe w' g=>?_
      obtain⟨⟨x0,x1,x2,x3,hw,he⟩,g⟩:=g;exact⟨⟨none,0,0,x0,x1,x2,x3,ld _ _,hw,he⟩,by simpa [eV,a] using g⟩
def bZ {e:TypeId} (h:w.ownsRow base e size v n xs):∃ g0 n0 c0,v=.slice g0 n0 c0:=by
 obtain⟨_,h⟩:=h;rcases h with⟨rfl,_⟩|⟨g,f,a,rfl,_⟩
 .exact⟨_,_,_,rfl⟩
 .exact⟨_,_,_,rfl⟩
variable (b s r d x) in
def Bl:match aJ (r.length+1) r with
  |.ok cs r'=>Ka b s r r' d x true (λw w' v=>db w' (dn w.heap.size w') 282 3 v cs.length (cs.flatMap cX))
  |.bad r'=>Ka b s r r' d x false (λ_ _ _=>True):=by
 cases hR:aJ (r.length+1) r with
 |ok cs r'=>
  intro w hw;refine(qg w b s r d x hw _ hR).mono λe w' g=>?_
  obtain⟨⟨v,hv,he⟩,g⟩:=g;obtain⟨g0,n0,c0,rfl⟩:=bZ hv;exact⟨⟨g0,n0,c0,db.of_owns hv,he⟩,g⟩
 |bad r'=>
  intro w hw;refine(qg w b s r d x hw _ hR).mono λe w' g=>?_
  exact⟨⟨none,0,0,trivial,g.1⟩,g.2⟩
def C5 (n:Nat) (hK:qi n):iM (n+1):=by
 intro w b s r d x h hl hn hb;have m:=h.lt;have ha:=λw (hw:St w b s r d x)=>hK w b s r d x hw hl ω hb
 cases hR:bV n r with
 |bad r'=>
  have hP:dA (n+1) r=.bad r':=by simp only[dA,hR]
  rw[hP];refine(Kb w b s r r' d x (λ_=>True) h (λ_ _ _ _ _ _ _=>True) (λw hw=>(ha w hw).mono λe w' g=>?_)).mono λe w' g=>?_
  .rw[hR] at g;obtain⟨x',⟨g0,n0,c0,x0,x1,x2,x3,he⟩,g⟩:=g;exact⟨x',trivial,⟨g0,n0,c0,x0,x1,x2,x3,trivial,he⟩,g⟩
  .obtain⟨x',-,he,g⟩:=g;exact⟨x',⟨none,0,0,0,0,0,0,none,0,0,he⟩,g⟩
 |ok p r'=>
  obtain⟨g,B⟩:=p;have hA:J_ b s r r' d x (λy=>y=up x d (eV g)) true (λw w' v x0 x1 x2 x3=>dU w' (dn w.heap.size w') g v/\Wd x0 x1 x2 x3 B):=λw hw=>(ha w hw).mono λe w' q=>by
   rw[hR] at q;obtain⟨⟨g0,n0,c0,x0,x1,x2,x3,h1,h2,he⟩,q⟩:=q;exact⟨_,rfl,⟨g0,n0,c0,x0,x1,x2,x3,⟨h1,h2⟩,he⟩,q⟩
  cases hC:aJ (r'.length+1) r' with
  |bad r''=>
   have hP:dA (n+1) r=.bad r'':=by simp only[dA,hR,hC]
   rw[hP];have hc:=λx'=>Bl b s r' d x'
   simp only[hC] at hc;refine(EX w b s r r' r'' d x _ false h _ _ hA hc).mono λe w' q=>?_
   obtain⟨x',-,⟨g0,n0,c0,x0,x1,x2,x3,g1,n1,c1,w1,w2,-,-,-,-,-,-,-,he⟩,q⟩:=q;exact⟨x',⟨g0,n0,c0,x0,x1,x2,x3,g1,n1,c1,he⟩,q⟩
  |ok cs r''=>
   have hP:dA (n+1) r=.ok (.mk g B cs) r'':=by simp only[dA,hR,hC]
   rw[hP];have hc:=λx'=>Bl b s r' d x'
   simp only[hC] at hc;refine(EX w b s r r' r'' d x _ true h _ _ hA hc).mono λe w' q=>?_
   obtain⟨x',rfl,⟨g0,n0,c0,x0,x1,x2,x3,g1,n1,c1,w1,w2,⟨q1,q2⟩,q3,i,a,hz,hh,u,he⟩,q⟩:=q;have f:=i.size;simp only[size_alloc] at f;refine⟨⟨g0,n0,c0,x0,x1,x2,x3,g1,n1,c1,?_,he⟩,by rw[pS];exact q⟩;simp only[eY];refine⟨_,x0,x1,x2,x3,_,rfl,?_,q2,?_⟩
   .obtain⟨vs,hv⟩:=q1.of_heap (w':=w') (S':=dn w.heap.size w') (λj hj hlt'=>by
     have h1:=hj.1;simp only[size_alloc] at h1
     exact⟨⟨ω,ω⟩,(hh j ω).trans (a.block j hlt' ω)⟩)
    exact⟨vs,hv⟩
   .exact q3.of_heap (λj hj hlt'=>by
     have h1:=hj.1;simp only[size_alloc] at h1
     exact⟨⟨ω,ω⟩,hh j ω⟩)
def Tryz.infoPart:(prog.info? 231).map (λi=>(i.zero,i.size,i.bytes))=some (some (.agg #[.slice none 0 0,.int .u64 0,.int .u64 0,.int .u64 0,.int .u64 0,.slice none 0 0]),6,80):=κ
def E5 (acc:List aO):dN (List aO)->dN (List aO)
 |.ok cs r=>.ok (acc++cs) r
 |.bad r=>.bad r
variable (ps p) in
theorem qj:dM (ps++[p])=max (dM ps) (oy p):=by
 induction ps with
 |nil=>simp[dM]
 |cons q ps ih=>simp only[cons_append,dM,ih];omega
structure Lb (w w':World) (b:Nat) (s:ByteArray) (d x:Int) (R0:dN (List aO)) (n:Nat) (acc:List aO) (css:List (List Value)) (v:Value) (r:List UInt8):Prop where
 st:St w' b s r d (up x d (dM acc))
 rd:Rd b w w'
 own:w'.ownsRow w.heap.size 231 6 v acc.length css.flatten
 rep:dl w' (λg=>dn w.heap.size w' g/\v.ownBlock≠some g) acc css
 len:acc.length+r.length<=200
 dep:d+dM acc<=200
 lim:0<=d/\d+r.length<=200
 hn:4*r.length+3<=n
 heq:E5 acc (bB n r)=R0
def C6 {acc:List aO}{css:List (List Value)}{cells:List Value} (hlt:b<w.heap.size)
  (hrd:Rd b w w') (hown:w'.ownsRow w.heap.size 231 6 v acc.length css.flatten) (hrep:dl w' (λg=>dn w.heap.size w' g/\v.ownBlock≠some g) acc css)
  (hr2:Rd b w' w2) (hp:eY w2 (dn w'.heap.size w2) p cells) (hr3:Rd b w2 w3) (hgr:w3.grownBy w4 v.ownBlock) (hob:v'.ownBlock=v.ownBlock\/v'.ownBlock=some w3.heap.size) :
  dl w4 (λg=>dn w.heap.size w4 g/\v'.ownBlock≠some g) (acc++[p]) (css++[cells]):=by
 have hv:∀ k,v.ownBlock=some k->w.heap.size<=k/\k<w'.heap.size:=λk hk=>hown.lt k hk
 have h1:=hrd.size;have h2:=hr2.size;have h3:=hr3.size;have h4:=hgr.size;refine dl.snoc (eY.of_heap (λg hg hlt'=>?_) p cells hp) (dl.of_heap (λg hg hlt'=>?_) acc css hrep)
 .have a:=hg.1;have ne:v.ownBlock≠some g:=λe=>by have:=(hv g e).2;omega
  refine⟨⟨⟨ω,ω⟩,?_⟩,(hgr.block g ω (λe=>ne e.symm)).trans (hr3.block g hlt' ω)⟩;rcases hob with e|e<;>rw[e]
  .exact ne
  .intro q;injection q with q;omega
 .obtain⟨a,h⟩:=hg;have f:g≠b:=by have:=a.1;omega
  refine⟨⟨⟨a.1,ω⟩,?_⟩,(hgr.block g ω (λe=>h e.symm)).trans ((hr3.block g ω f).trans (hr2.block g hlt' f))⟩;rcases hob with e|e<;>rw[e]
  .exact h
  .intro q;injection q with q;have:=a.2;omega
def zv (n0:Nat) (hK:∀ n,n<n0->iM n) (w:World) (b:Nat) (s:ByteArray) (r:List UInt8) (d x:Int) (h:St w b s r d x) (hl:Ju d x r) (hn0:4*r.length+3<=n0) (R0:dN (List aO)) (hR0:bB n0 r=R0) :
  Calls prog 173 #[.pointer (some ⟨b,0,none⟩)] w λe w'=>E3 w w' b s d x e R0:=by
 have Z:=h.ne;have B:=h.lt;obtain⟨d0,dr,dx,x1⟩:=hl;obtain⟨i0,hi,N,W,T⟩:=info_parts Tryz.infoPart;have HK:=zh hK
 go_enter func173,ntmps173
 go_wp2
 refine ce 0 (λa' w'=>∃ n i m v r',n<=n0/\Lb w w' b s d x R0 n i m v r'/\∃ u5 u6 u7 u8 u9 u10 u11 u12 u13 u14 u15 u16 u17 u18 u19 u20 u21,a'={tmps:=#[.pointer (some ⟨b,0,none⟩),undef,.slice none 0 0,.bool false,v,u5,u6,u7,u8,u9,u10,u11,u12,u13,u14,u15,u16,u17,u18,u19,u20,u21],defers:=[]}) (λ_ w'=>leftOf b s w') rfl ?_ ?_
 .intro hp;have HP:Hid _:=hp;go_wp2
  go_step3
  refine ‹∀ a w,Code.wp _ _ _ a w->_› _ _ (HP _ _ ⟨n0,[],[],.slice none 0 0,r,zq,⟨?_,Rd.refl _ _,Zn _ _ _ _,?_,?_,?_,⟨d0,dr⟩,hn0,?_⟩,_,_,_,_,_,_,_,_,_,_,_,_,_,_,_,_,_,rfl⟩)
  .rw[show dM []=0 from by simp[dM],uQ dx];exact h
  .simp[dl]
  .have:=h.len;simpa using this
  .simp[dM];omega
  .rw[hR0];cases R0<;>rfl
 .rintro a' w' ⟨n,i,m,v,r',a2,⟨C,A,K,I,Y,J,⟨a1,L⟩,hn,G⟩,u5,u6,u7,u8,u9,u10,u11,u12,u13,u14,u15,u16,u17,u18,u19,u20,u21,rfl⟩;obtain⟨n',rfl⟩:∃ n',n=n'+1:=⟨n-1,ω⟩
  have HO:=zh K;have HR:=zh I
  cases hB:ci r' with
  |false=>
   have z:=λw hw=>ko w b s r' d (up x d (dM i)) hw
   rw[hB] at z;have HQ:Hid (R0=.ok i r'):=by show _=_;rw[<-G];simp[bB,hB,E5]
   obtain⟨q0,q1,q2,U⟩:=bZ HO;go_wp2_with (go_at_call 195;refine(z _ C).mono ?_;rintro e w2 ⟨rfl,g2,f⟩)
   simp only[Exit.jump];go_ret2
   rw[HQ.out];refine⟨⟨q0,q1,q2,⟨m,?_,?_⟩,rfl⟩,g2,A.trans f⟩
   .rw[<-U];exact db.of_owns (bu HO f B)
   .exact dl.of_heap (λg hg hlt'=>⟨⟨hg.1.1,Zd hlt' f.size⟩,f.block g hlt' (η hg.1.1)⟩) i m HR
  |true=>
   have z:=λw hw=>ko w b s r' d (up x d (dM i)) hw
   rw[hB] at z;have D:=λw hw=>HK n' ω w b s r' d (up x d (dM i)) hw ⟨d0,L,by have:=Jw x d (dM i);omega,Jv x1 J⟩ ω hB
   cases hP:dA n' r' with
   |bad r2=>
    rw[hP] at D;have HQ:Hid (R0=.bad r2):=by show _=_;rw[<-G];simp[bB,hB,hP,E5]
    go_wp2_with (first|(go_at_call 196;refine(D _ g2).mono ?_;rintro e w3 ⟨x',⟨g0,m0,c0,y0,y1,y2,y3,g1,m1,c1,rfl⟩,g3,q⟩)|(go_at_call 195;refine(z _ C).mono ?_;rintro e w2 ⟨rfl,g2,f⟩))
    simp only[Exit.jump];go_ret2
    rw[HQ.out];exact⟨x',rfl,g3.alloc _,((A.trans f).trans q).alloc _⟩
   |ok p r2=>
    rw[hP] at D;have a3:=(Cr n').2.2.1 _ _ _ hP;have HQ:Hid (E5 (i++[p]) (bB n' r2)=R0):=by
     show _=_;rw[<-G];simp only[bB,hB,hP,if_true]
     cases bB n' r2<;>simp[E5]
    go_wp2_with (first|(at_builtin;refine wpList_append_own_at _ rfl (.tmp 18) (.tmp 20) 225 rfl w.heap.size 231 i0 (.agg #[.slice none 0 0,.int .u64 0,.int .u64 0,.int .u64 0,.int .u64 0,.slice none 0 0]) 6 80 underlying225 hi N W T rfl Zr v i.length m.flatten rfl (((bu (bu HO f B) q B).alloc _).alloc _) ⟨w3.heap.size+1,0,none⟩ 1 1 [.slice g0 m0 c0,.int .u64 y0,.int .u64 y1,.int .u64 y2,.int .u64 y3,.slice g1 m1 c1] rfl rfl ?c1 ?c2 ?c3 ?c4 ?c5 ?_)|(go_at_call 196;refine(D _ g2).mono ?_;rintro e w3 ⟨⟨g0,m0,c0,y0,y1,y2,y3,g1,m1,c1,Q,rfl⟩,g3,q⟩;have R:Hid _:=Q)|(go_at_call 195;refine(z _ C).mono ?_;rintro e w2 ⟨rfl,g2,f⟩))
    case c1=>
     intro j u hj
     match j,hj with
     |0,hj=>simp at hj;subst hj;simp[Addr.add,go_sem]
     |1,hj=>simp at hj;subst hj;simp[Addr.add,go_sem]
     |2,hj=>simp at hj;subst hj;simp[Addr.add,go_sem]
     |3,hj=>simp at hj;subst hj;simp[Addr.add,go_sem]
     |4,hj=>simp at hj;subst hj;simp[Addr.add,go_sem]
     |5,hj=>simp at hj;subst hj;simp[Addr.add,go_sem]
    case c2=>intro u hu;simp at hu;rcases hu with rfl|rfl|rfl|rfl|rfl|rfl<;>rfl
    case c3=>unfold maxLen;omega
    case c4=>omega
    case c5=>have:=((A.trans f).trans q).size;simp;omega
    intro v' w4 F H _ O;have E:∀ k,v.ownBlock=some k->w.heap.size<=k:=λk hk=>(HO.lt k hk).1
    have M:Hid _:=C6 (b:=b) (v':=v') (w:=w) (w':=w') (w2:=w3) (p:=p) (cells:=[.slice g0 m0 c0,.int .u64 y0,.int .u64 y1,.int .u64 y2,.int .u64 y3,.slice g1 m1 c1]) B A HO HR (f.trans q) (eY.of_heap (λg hg hlt'=>⟨⟨by have:=hg.1;have:=f.size;omega,hlt'⟩,rfl⟩) p _ R) (((Rd.refl b w3).alloc _).alloc _) H (by simpa using O);have P:Hid (w4.ownsRow w.heap.size 231 6 v' (i++[p]).length (m++[([.slice g0 m0 c0,.int .u64 y0,.int .u64 y1,.int .u64 y2,.int .u64 y3,.slice g1 m1 c1]:List Value)]).flatten):=by
     show ownsRow _ _ _ _ _ _ _
     simpa using F
    have g4:=((g3.alloc _).alloc _).grown H (λk hk=>by have:=E k hk;omega);have V:=((((A.trans f).trans q).alloc _).alloc _).grown H E;go_wp2
    go_step3
    refine⟨rfl,⟨n',i++[p],_,v',r2,ω,⟨?_,V,P,M,σ,by rw[qj];omega,⟨d0,ω⟩,ω,HQ⟩,_,_,_,_,_,_,_,_,_,_,_,_,_,_,_,_,_,rfl⟩,?_⟩
    .rw[qj,<-EY];exact g4
    .rw[g4.left,C.left];omega
def Tryz.infoChain:(prog.info? 225).map (λi=>(i.zero,i.size,i.bytes))=some (some (.slice none 0 0),1,24):=κ
def Bm (acc:List (List aO)):dN (List (List aO))->dN (List (List aO))
 |.ok cs r=>.ok (acc++cs) r
 |.bad r=>.bad r
variable (cs) in
theorem kq (c:List aO):aZ (cs++[c])=max (aZ cs) (dM c):=by
 induction cs with
 |nil=>simp[aZ]
 |cons q ps ih=>simp only[cons_append,aZ,ih];omega
structure Lc (w w':World) (b:Nat) (s:ByteArray) (d x:Int) (R0:dN (List (List aO))) (n:Nat) (acc:List (List aO)) (vs:List Value) (v:Value) (r:List UInt8):Prop where
 st:St w' b s r d (up x d (aZ acc))
 rd:Rd b w w'
 own:w'.ownsRow w.heap.size 225 1 v acc.length vs
 rep:cY w' (λg=>dn w.heap.size w' g/\v.ownBlock≠some g) acc vs
 len:acc.length+r.length<=200
 dep:d+aZ acc<=200
 lim:0<=d/\d+r.length<=200
 hn:4*r.length+4<=n
 heq:Bm acc (ay n r)=R0
def oL {acc:List (List aO)}{vs:List Value}{p:List aO}{cv:Value} (hlt:b<w.heap.size)
  (hrd:Rd b w w') (hown:w'.ownsRow w.heap.size 225 1 v acc.length vs) (hrep:cY w' (λg=>dn w.heap.size w' g/\v.ownBlock≠some g) acc vs)
  (hr2:Rd b w' w2) (hp:mE w2 (dn w'.heap.size w2) p cv) (hr3:Rd b w2 w3) (hgr:w3.grownBy w4 v.ownBlock) (hob:v'.ownBlock=v.ownBlock\/v'.ownBlock=some w3.heap.size) :
  cY w4 (λg=>dn w.heap.size w4 g/\v'.ownBlock≠some g) (acc++[p]) (vs++[cv]):=by
 have hv:∀ k,v.ownBlock=some k->w.heap.size<=k/\k<w'.heap.size:=λk hk=>hown.lt k hk
 have h1:=hrd.size;have h2:=hr2.size;have h3:=hr3.size;have h4:=hgr.size;refine cY.snoc (hp.of_heap (λg hg hlt'=>?_)) (cY.of_heap (λg hg hlt'=>?_) acc vs hrep)
 .have a:=hg.1;have ne:v.ownBlock≠some g:=λe=>by have:=(hv g e).2;omega
  refine⟨⟨⟨ω,ω⟩,?_⟩,(hgr.block g ω (λe=>ne e.symm)).trans (hr3.block g hlt' ω)⟩;rcases hob with e|e<;>rw[e]
  .exact ne
  .intro q;injection q with q;omega
 .obtain⟨a,h⟩:=hg;have f:g≠b:=by have:=a.1;omega
  refine⟨⟨⟨a.1,ω⟩,?_⟩,(hgr.block g ω (λe=>h e.symm)).trans ((hr3.block g ω f).trans (hr2.block g hlt' f))⟩;rcases hob with e|e<;>rw[e]
  .exact h
  .intro q;injection q with q;have:=a.2;omega
def uR (n0:Nat) (hK:∀ n,n<n0->qh n) (w:World) (b:Nat) (s:ByteArray) (r:List UInt8) (d x:Int) (h:St w b s r d x) (hl:Ju d x r) (hn0:4*r.length+4<=n0) (R0:dN (List (List aO))) (hR0:ay n0 r=R0) :
  Calls prog 122 #[.pointer (some ⟨b,0,none⟩)] w λe w'=>E0 w w' b s d x e R0:=by
 have W:=h.ne;have C:=h.lt;obtain⟨d0,dr,dx,x1⟩:=hl;obtain⟨i0,hi,N,T,Q⟩:=info_parts Tryz.infoChain;have HK:=zh hK
 go_enter func122,ntmps122
 go_wp2
 refine ce 0 (λa' w'=>∃ n f vs v r',n<=n0/\Lc w w' b s d x R0 n f vs v r'/\∃ u5 u6 u7 u8 u9 u10 u11 u12 u13 u14 u15 u16 u17 u18 u19 u20,a'={tmps:=#[.pointer (some ⟨b,0,none⟩),undef,.slice none 0 0,.bool false,v,u5,u6,u7,u8,u9,u10,u11,u12,u13,u14,u15,u16,u17,u18,u19,u20],defers:=[]}) (λ_ w'=>leftOf b s w') rfl ?_ ?_
 .intro hp;have HP:Hid _:=hp;go_wp2
  go_step3
  refine ‹∀ a w,Code.wp _ _ _ a w->_› _ _ (HP.out _ _ ⟨n0,[],[],.slice none 0 0,r,zq,⟨?_,Rd.refl _ _,Zn _ _ _ _,?_,?_,?_,⟨d0,dr⟩,hn0,?_⟩,_,_,_,_,_,_,_,_,_,_,_,_,_,_,_,_,rfl⟩)
  .rw[show aZ []=0 from by simp[aZ],uQ dx];exact h
  .simp[cY]
  .have:=h.len;simpa using this
  .simp[aZ];omega
  .rw[hR0];cases R0<;>rfl
 .rintro a' w' ⟨n,f,vs,v,r',a1,⟨E,A,R,O,V,P,⟨Y,U⟩,hn,K⟩,u5,u6,u7,u8,u9,u10,u11,u12,u13,u14,u15,u16,u17,u18,u19,u20,rfl⟩;obtain⟨n',rfl⟩:∃ n',n=n'+1:=⟨n-1,ω⟩
  have HO:=zh R;have HR:=zh O;have D:=λw hw=>HK.out n' ω w b s r' d (up x d (aZ f)) hw ⟨d0,U,by have:=Jw x d (aZ f);omega,Jv x1 P⟩ ω
  cases hP:bB n' r' with
  |bad r2=>
   rw[hP] at D;have HQ:Hid (R0=.bad r2):=by show _=_;rw[<-K];simp[ay,hP,Bm]
   go_wp2_with (go_at_call 173;refine(D _ E).mono ?_;rintro e w3 ⟨x',rfl,g3,m⟩)
   simp only[Exit.jump];go_ret2
   rw[HQ.out];exact⟨x',rfl,g3,A.trans m⟩
  |ok p r2=>
   rw[hP] at D;have a2:=(Cr n').2.1 _ _ _ hP;have ht:=dD b s d (up (up x d (aZ f)) d (dM p)) 124 r2
   cases hm:gP 124 r2 with
   |false=>
    obtain⟨e1,e2⟩:=nJ hm;rw[hm,e1] at ht;have HQ:Hid (R0=.ok (f++[p]) r2):=by
     show _=_;rw[<-K];simp only[ay,hP];rfl
    go_wp2_with (first|(go_at_call 121;refine(ht _ g4).mono ?_;rintro e w5 ⟨rfl,g5,q⟩)|(at_builtin;refine wpList_append_own_at _ rfl (.tmp 14) (.tmp 16) 85 rfl w.heap.size 225 i0 (.slice none 0 0) 1 24 underlying85 hi N T Q rfl Zr v f.length vs rfl ((bu HO.out m C).alloc _) ⟨w3.heap.size,0,none⟩ 1 1 [.slice g0 m0 c0] rfl rfl ?c1 ?c2 ?c3 ?c4 ?c5 ?_)|(go_at_call 173;refine(D _ E).mono ?_;rintro e w3 ⟨⟨g0,m0,c0,I,rfl⟩,g3,m⟩;have J:Hid _:=I))
    case c1=>
     intro j u hj
     match j,hj with
     |0,hj=>simp at hj;subst hj;simp[Addr.add,go_sem]
    case c2=>intro u hu;simp at hu;subst hu;rfl
    case c3=>unfold maxLen;omega
    case c4=>omega
    case c5=>have:=(A.trans m).size;simp;omega
    intro v' w4 i B _ G;have z:∀ k,v.ownBlock=some k->w.heap.size<=k:=λk hk=>(HO.out.lt k hk).1
    have F:Hid _:=oL (b:=b) (v':=v') (w:=w) (w':=w') (w2:=w3) (p:=p) (cv:=.slice g0 m0 c0) C A HO.out HR.out m J.out ((Rd.refl b w3).alloc _) B (by simpa using G);obtain⟨q0,q1,q2,L⟩:=bZ i;subst L;have H:Hid (w4.ownsRow w.heap.size 225 1 (.slice q0 q1 q2) (f++[p]).length (vs++[.slice g0 m0 c0])):=by
     show ownsRow _ _ _ _ _ _ _
     simpa using i
    have g4:=(g3.alloc _).grown B (λk hk=>by have:=z k hk;omega);have M:=((A.trans m).alloc _).grown B z;go_wp2_with (go_at_call 121;refine(ht _ g4).mono ?_;rintro e w5 ⟨rfl,g5,q⟩)
    simp only[Exit.jump];go_ret2
    rw[HQ.out];refine⟨⟨q0,q1,q2,⟨vs++[.slice g0 m0 c0],?_,?_⟩,rfl⟩,?_,M.trans q⟩
    .exact db.of_owns (bu H.out q C)
    .exact cY.of_heap (λg hg hlt'=>⟨⟨hg.1.1,Zd hlt' q.size⟩,q.block g hlt' (η hg.1.1)⟩) _ _ F.out
    .rw[kq,<-EY];exact g5
   |true=>
    have e1:=wK hm;rw[hm] at ht;have Z:r2.length=(dC 124 r2).length+1:=by rw[e1];simp[dC]
    have HQ:Hid (Bm (f++[p]) (ay n' (dC 124 r2))=R0):=by
     show _=_;rw[<-K];rw[e1] at hP;simp only[ay,hP]
     cases ay n' (dC 124 r2)<;>simp[Bm]
    go_wp2_with (first|(go_at_call 121;refine(ht _ g4).mono ?_;rintro e w5 ⟨rfl,g5,q⟩)|(at_builtin;refine wpList_append_own_at _ rfl (.tmp 14) (.tmp 16) 85 rfl w.heap.size 225 i0 (.slice none 0 0) 1 24 underlying85 hi N T Q rfl Zr v f.length vs rfl ((bu HO.out m C).alloc _) ⟨w3.heap.size,0,none⟩ 1 1 [.slice g0 m0 c0] rfl rfl ?c1 ?c2 ?c3 ?c4 ?c5 ?_)|(go_at_call 173;refine(D _ E).mono ?_;rintro e w3 ⟨⟨g0,m0,c0,I,rfl⟩,g3,m⟩;have J:Hid _:=I))
    case c1=>
     intro j u hj
     match j,hj with
     |0,hj=>simp at hj;subst hj;simp[Addr.add,go_sem]
    case c2=>intro u hu;simp at hu;subst hu;rfl
    case c3=>unfold maxLen;omega
    case c4=>omega
    case c5=>have:=(A.trans m).size;simp;omega
    intro v' w4 i B _ G;have z:∀ k,v.ownBlock=some k->w.heap.size<=k:=λk hk=>(HO.out.lt k hk).1
    have F:Hid _:=oL (b:=b) (v':=v') (w:=w) (w':=w') (w2:=w3) (p:=p) (cv:=.slice g0 m0 c0) C A HO.out HR.out m J.out ((Rd.refl b w3).alloc _) B (by simpa using G);obtain⟨q0,q1,q2,L⟩:=bZ i;subst L;have H:Hid (w4.ownsRow w.heap.size 225 1 (.slice q0 q1 q2) (f++[p]).length (vs++[.slice g0 m0 c0])):=by
     show ownsRow _ _ _ _ _ _ _
     simpa using i
    have g4:=(g3.alloc _).grown B (λk hk=>by have:=z k hk;omega);have M:=((A.trans m).alloc _).grown B z;go_wp2_with (go_at_call 121;refine(ht _ g4).mono ?_;rintro e w5 ⟨rfl,g5,q⟩)
    go_step3
    refine⟨rfl,⟨n',f++[p],vs++[.slice g0 m0 c0],.slice q0 q1 q2,dC 124 r2,ω,⟨?_,M.trans q,bu H.out q C,?_,σ,by rw[kq];omega,⟨d0,ω⟩,ω,HQ.out⟩,_,_,_,_,_,_,_,_,_,_,_,_,_,_,_,_,rfl⟩,?_⟩
    .rw[kq,<-EY];exact g5
    .exact cY.of_heap (λg hg hlt'=>⟨⟨⟨hg.1.1,Zd hlt' q.size⟩,hg.2⟩,q.block g hlt' (η hg.1.1)⟩) _ _ F.out
    .rw[g5.left,E.left];omega
def Ld (n:Nat):gC n/\qh n/\iM n/\qi n:=by
 induction n using Nat.strongRecOn with
 |_ n ih=>
  refine⟨?_,?_,?_,?_⟩
  .intro w b s r d x h hl hn;exact uR n (λm hm=>(ih m hm).2.1) w b s r d x h hl hn _ rfl
  .intro w b s r d x h hl hn;exact zv n (λm hm=>(ih m hm).2.2.1) w b s r d x h hl hn _ rfl
  .cases n with
   |zero=>intro w b s r d x h hl hn;omega
   |succ n=>exact C5 n (ih n (lt_succ_self _)).2.2.2
  .cases n with
   |zero=>intro w b s r d x h hl hn;omega
   |succ n=>exact C4 n (ih n (lt_succ_self _)).1
abbrev Jy:Obj:=.cells #[.bool false,.bool false,.slice none 0 0] 87
structure Z3 (w:World) (b:Nat):Prop where
 c0:w.cell? ⟨b,0,none⟩=some (.bool false)
 c1:w.cell? ⟨b,1,none⟩=some (.bool false)
 c2:w.cell? ⟨b,2,none⟩=some (.slice none 0 0)
 fz:∀ o,w.frozen? ⟨b,o,none⟩=false
def Z3.of_heap (h:Z3 w b) (hb:w'.heap[b]?=w.heap[b]?):Z3 w' b:=by
 have hc:∀ o,w'.cell? ⟨b,o,none⟩=w.cell? ⟨b,o,none⟩:=λo=>by simp[cell?,hb]
 have hf:∀ o,w'.frozen? ⟨b,o,none⟩=w.frozen? ⟨b,o,none⟩:=λo=>by simp[frozen?,hb]
 exact⟨(hc _).trans h.c0,(hc _).trans h.c1,(hc _).trans h.c2,λo=>(hf o).trans (h.fz o)⟩
def E6 (w:World):Z3 (w.alloc Jy) w.heap.size:=by
 refine⟨?_,?_,?_,λo=>?_⟩<;>simp[go_sem]
def St.at_end (h:St w b s r d x) :
  ∃ k:Nat,k+r.length=s.size/\s.size<=200/\w.cell? ⟨b,0,none⟩=some (.string s)/\w.cell? ⟨b,1,none⟩=some (.int .i64 k)/\((k:Int)==s.size)=r.isEmpty:=by
 obtain⟨⟨k,hr,hk,hs⟩,_,_,sz⟩:=h;have hl:r.length=s.size-k:=by rw[<-hs,mC]
 refine⟨k,ω,sz,hr.c0,hr.c1,?_⟩
 cases r with
 |nil=>simp at hl;simp;omega
 |cons c t=>simp at hl;simp;omega
abbrev iu (f k:Bool) (g0:Option Addr) (n0 c0:Nat):Value:=.agg #[.bool f,.bool k,.slice g0 n0 c0]
variable (w b s r r1 r2 d x X tk) in
def C7 (h:St w b s r d x) (Q:World->World->Value->Prop) (ht:g_ b s d x 94 r r1 tk) (hc:C2 b s r1 r2 d x X false Q) :
  Calls prog 71 #[.pointer (some ⟨b,0,none⟩)] w λe w'=>∃ x',X x'/\e=.returned (.tuple #[iu false false none 0 0,.bool false])/\aQ w w' b s r2 d x':=by
 have j:=h.ne;have i:=h.lt
 go_enter func71,ntmps71
 go_wp2_with (first|(go_at_call 122;refine(hc _ g1).mono ?_;rintro e w2 ⟨x',hX,⟨g0,n0,c0,hq,rfl⟩,g2,a⟩;obtain⟨d0,d1,d2,dz⟩:=(E6 w).of_heap ((f.trans a).block w.heap.size χ j))|(go_at_call 121;refine(ht _ (h.alloc _)).mono ?_;rintro e w1 ⟨rfl,g1,f⟩))
 refine Zb (v:=.tuple #[iu false false none 0 0,.bool false]) ?_ rfl ?_
 .simp[results,results71,go_sem,d0,d1,d2]
 .exact⟨x',hX,rfl,(υ i g2),(by(repeat first|(with_reducible refine Rd.setNew ?_ φ _)|(with_reducible refine Rd.alloc ?_ _)|(with_reducible refine Rd.drew ?_)|(with_reducible refine Rd.drewN ?_ _));exact(f.trans a).under)⟩
variable (w b s r r1 r2 r3 d x x') in
def C8 (tk tk2:Bool) (h:St w b s r d x) (Q:World->World->Value->Prop) (ht:g_ b s d x 94 r r1 tk) (hc:C2 b s r1 r2 d x (λy=>y=x') true Q) (ht2:g_ b s d x' 36 r2 r3 tk2) :
  Calls prog 71 #[.pointer (some ⟨b,0,none⟩)] w λe w'=>(∃ g0 n0 c0 w1 w2,Q w1 w2 (.slice g0 n0 c0)/\w.heap.size<w1.heap.size/\w2.heap.size<=w'.heap.size/\(∀ g,w.heap.size<g->g<w2.heap.size->g≠b->w'.heap[g]?=w2.heap[g]?)/\e=.returned (.tuple #[iu tk tk2 g0 n0 c0,.bool r3.isEmpty]))/\aQ w w' b s r3 d x':=by
 have m:=h.ne;have j:=h.lt
 go_enter func71,ntmps71
 go_wp2_with (first|(go_at_call 121;refine(ht2 _ g2).mono ?_;rintro e w3 ⟨rfl,g3,a⟩;obtain⟨d0,d1,d2,dz⟩:=(E6 w).of_heap (((f.trans i).trans a).block w.heap.size χ m);obtain⟨k,B,C,k0,k1,ke⟩:=g3.at_end)|(go_at_call 122;refine(hc _ g1).mono ?_;rintro e w2 ⟨A,rfl,⟨g0,n0,c0,hq,rfl⟩,g2,i⟩)|(go_at_call 121;refine(ht _ (h.alloc _)).mono ?_;rintro e w1 ⟨rfl,g1,f⟩))
 go_region
 all_goals
  go_wp2
  have hr:=(f.trans i).trans a;have u:=f.size;simp only[size_alloc] at u;refine Zb (v:=.tuple #[iu tk tk2 g0 n0 c0,.bool r3.isEmpty]) ?_ rfl ?_
  .simp[results,results71,go_sem,d0,d1,d2]
  .refine⟨⟨g0,n0,c0,w1,w2,hq,ω,?_,?_,rfl⟩,(υ j g3),(ς hr.under)⟩
   .have:=a.size;simpa [World.setCell] using this
   .intro g hg q z;show(World.setCell _ _ _).heap[g]?=_
    (repeat rw[Zf _ _ _ _ σ])
    exact a.block g q z
def Ke (w w':World) (b:Nat) (s:ByteArray) (d x:Int) (e:Ending):dN sT->Prop
 |.ok p r=>(∃ g0 n0 c0,dU w' (dn w.heap.size w') p.choices (.slice g0 n0 c0)/\e=.returned (.tuple #[iu p.front p.back g0 n0 c0,.bool true]))/\aQ w w' b s r d (up x d (aZ p.choices))
 |.bad r=>∃ x',(∃ f k g0 n0 c0,e=.returned (.tuple #[iu f k g0 n0 c0,.bool false]))/\aQ w w' b s r d x'
def cz (l:List UInt8):dN sT:=match ay (4*(dC 94 l).length+4) (dC 94 l) with
 |.bad r'=>.bad r'
 |.ok cs r'=>if (dC 36 r').isEmpty then .ok ⟨gP 94 l,gP 36 r',cs⟩ [] else .bad (dC 36 r')
variable (w b s r d x) in
def wL (h:St w b s r d x) (hl:Ju d x r) :
  Calls prog 71 #[.pointer (some ⟨b,0,none⟩)] w λe w'=>Ke w w' b s d x e (cz r):=by
 have m:=h.lt;have ht:=dD b s d x 94 r;have i:(dC 94 r).length<=r.length:=by
  match r with
  |[]=>exact zq
  |a::t=>simp only[dC];split<;>simp
 obtain⟨d0,dr,dx,x1⟩:=hl;have hk:=λw hw=>(Ld (4*(dC 94 r).length+4)).1 w b s (dC 94 r) d x hw ⟨d0,ω,dx,x1⟩ zq
 cases hR:ay (4*(dC 94 r).length+4) (dC 94 r) with
 |bad r2=>
  have hP:cz r=.bad r2:=by simp only[cz,hR]
  rw[hP];refine(C7 w b s r _ r2 d x (λ_=>True) _ h (λ_ _ _=>True) ht (λw hw=>(hk w hw).mono λe w' g=>?_)).mono λe w' g=>?_
  .rw[hR] at g;obtain⟨x',he,g⟩:=g;exact⟨x',trivial,⟨_,_,_,trivial,he⟩,g⟩
  .obtain⟨x',-,he,g⟩:=g;exact⟨x',⟨_,_,_,_,_,he⟩,g⟩
 |ok cs r2=>
  have f:=dD b s d (up x d (aZ cs)) 36 r2;refine(C8 w b s r _ r2 _ d x (up x d (aZ cs)) _ _ h (λw w' v=>dU w' (dn w.heap.size w') cs v) ht (λw hw=>(hk w hw).mono λe w' g=>?_) f).mono λe w' g=>?_
  .rw[hR] at g;obtain⟨⟨g0,n0,c0,hq,he⟩,g⟩:=g;exact⟨_,rfl,⟨g0,n0,c0,hq,he⟩,g⟩
  .obtain⟨⟨g0,n0,c0,w1,w2,hq,q,u,hh,he⟩,g⟩:=g
   cases hE:(dC 36 r2).isEmpty with
   |false=>
    rw[hE] at he;have hP:cz r=.bad (dC 36 r2):=by simp only[cz,hR,hE,Bool.false_eq_true,if_false]
    rw[hP];exact⟨_,⟨_,_,_,_,_,he⟩,g⟩
   |true=>
    rw[hE] at he;have e0:dC 36 r2=[]:=by simpa using hE
    have hP:cz r=.ok ⟨gP 94 r,gP 36 r2,cs⟩ []:=by simp only[cz,hR,hE,if_true]
    rw[hP];rw[e0] at g;refine⟨⟨g0,n0,c0,hq.of_heap (λj hj hlt'=>?_),he⟩,g⟩;have:=hj.1;exact⟨⟨ω,ω⟩,hh j ω hlt' ω⟩
abbrev Lf (s:ByteArray):Obj:=.cells #[.string s,.int .i64 0,.int .i64 0,.int .i64 0] 138
variable (w s) in
def nK (hT:iV w) (hs:s.size<=200):St ((w.alloc Jy).alloc (Lf s)) (w.heap.size+1) s s.data.toList 0 0:=by
 have a:=hT.lt;refine⟨⟨0,⟨?_,?_,?_,?_,?_,?_⟩,Zk _,by simp[v_]⟩,hT.of_block (λk hk=>?_),ω,hs⟩
 .simp[go_sem]
 .simp[go_sem]
 .simp[go_sem]
 .simp[go_sem]
 .intro o;simp[go_sem]
 .simp
 .rw[Ze _ _ _ σ,Ze _ _ _ ω]
variable (w s) in
def C9 (hs:s.size<=maxLen) (h:200<s.size) :
  Calls prog 40 #[.string s] w λe w'=>e=.returned (.tuple #[iu false false none 0 0,.int .i64 4,.int .i64 0])/\Below w.heap.size w w':=by
 unfold maxLen at hs
 go_enter func40,ntmps40
 go_wp2
 refine Zb (v:=.tuple #[iu false false none 0 0,.int .i64 4,.int .i64 0]) ?_ rfl ⟨rfl,(τ ZB)⟩;simp[results,results40,go_sem]
abbrev LU (b:Nat) (s:ByteArray) (r r':List UInt8) (d x:Int) (X:Int->Prop) (ok:Bool) (Q:World->World->Bool->Bool->Value->Prop):Prop:=
 ∀ w,St w b s r d x->Calls prog 71 #[.pointer (some ⟨b,0,none⟩)] w λe w'=>∃ x',X x'/\(∃ f k g0 n0 c0,Q w w' f k (.slice g0 n0 c0)/\e=.returned (.tuple #[iu f k g0 n0 c0,.bool ok]))/\aQ w w' b s r' d x'
def kr {w w1:World}{o1 o2:Obj} (h:Rd (w.heap.size+1) ((w.alloc o1).alloc o2) w1):Below w.heap.size w w1:=
 ⟨h.os,h.tape,h.output,by have:=h.size;simp at this;omega,λk hk=>(h.block k σ ω).trans (by rw[Ze _ _ _ σ,Ze _ _ _ hk])⟩
def Δ {P U:Prop} (h:U) (k:U->P:=by intro h;(repeat first|(with_reducible refine Below.setCell ?_ φ _)|(with_reducible refine Below.alloc ?_ θ _)|(with_reducible refine Below.drew ?_));exact h):P:=k h
variable (w s) in
def E7 (hT:iV w) (hs:s.size<=200) (r':List UInt8) (X:Int->Prop) (Q:World->World->Bool->Bool->Value->Prop)
  (hp:LU (w.heap.size+1) s s.data.toList r' 0 0 X false Q) :
  Calls prog 40 #[.string s] w λe w'=>e=.returned (.tuple #[iu false false none 0 0,.int .i64 3,.int .i64 ((s.size-r'.length:Nat):Int)])/\Below w.heap.size w w':=by
 have h0:=nK w s hT hs;have H0:=zh h0
 go_enter func40,ntmps40
 go_wp2_with (go_at_call 71;refine(hp _ H0).mono ?_;rintro e w1 ⟨x',hX,⟨f,kb,g0,n0,c0,hq,rfl⟩,g1,a⟩;obtain⟨d0,d1,d2,dz⟩:=(E6 w).of_heap (w':=w1) ((a.block w.heap.size σ ω).trans (Ze _ _ _ χ));obtain⟨k,i,m,k0,k1,ke⟩:=g1.at_end;have j:w.heap.size+1<w1.heap.size:=(Zu a.size);have h:w.heap.size<w1.heap.size:=ω)
 go_region
 all_goals
  go_wp2
  have ek:s.size-r'.length=k:=ω;refine Zb (v:=.tuple #[iu false false none 0 0,.int .i64 3,.int .i64 ((s.size-r'.length:Nat):Int)]) ?_ rfl ⟨rfl,?_⟩
  .rw[ek];simp[results,results40,go_sem,d0,d1,d2,h]
  .have hb:=kr a;exact(Δ hb)
variable (w s) in
def C_ (hT:iV w) (hs:s.size<=200) (r':List UInt8) (x':Int) (Q:World->World->Bool->Bool->Value->Prop) (hx:20<x')
  (hp:LU (w.heap.size+1) s s.data.toList r' 0 0 (λy=>y=x') true Q) :
  Calls prog 40 #[.string s] w λe w'=>e=.returned (.tuple #[iu false false none 0 0,.int .i64 4,.int .i64 0])/\Below w.heap.size w w':=by
 have h0:=nK w s hT hs;have H0:=zh h0
 go_enter func40,ntmps40
 go_wp2_with (go_at_call 71;refine(hp _ H0).mono ?_;rintro e w1 ⟨y,rfl,⟨f,kb,g0,n0,c0,hq,rfl⟩,g1,a⟩;obtain⟨d0,d1,d2,dz⟩:=(E6 w).of_heap (w':=w1) ((a.block w.heap.size σ ω).trans (Ze _ _ _ χ));obtain⟨k2,k3,kf⟩:=g1.cells;have i:w.heap.size+1<w1.heap.size:=(Zu a.size);have h:w.heap.size<w1.heap.size:=ω)
 refine Zb (v:=.tuple #[iu false false none 0 0,.int .i64 4,.int .i64 0]) ?_ rfl ⟨rfl,?_⟩
 .simp[results,results40,go_sem,d0,d1,d2,h]
 .have hb:=kr a;exact(Δ hb)
variable (w s) in
def Id (hT:iV w) (hs:s.size<=200) (r':List UInt8) (x':Int) (Q:World->World->Bool->Bool->Value->Prop) (hx:¬ 20<x')
  (hp:LU (w.heap.size+1) s s.data.toList r' 0 0 (λy=>y=x') true Q) :
  Calls prog 40 #[.string s] w λe w'=>(∃ f k g0 n0 c0 w1 w2,Q w1 w2 f k (.slice g0 n0 c0)/\w1.heap.size=w.heap.size+2/\w2.heap.size<=w'.heap.size/\(∀ g,w.heap.size+2<=g->g<w2.heap.size->w'.heap[g]?=w2.heap[g]?)/\e=.returned (.tuple #[iu f k g0 n0 c0,.int .i64 0,.int .i64 0]))/\Below w.heap.size w w':=by
 have h0:=nK w s hT hs;have H0:=zh h0
 go_enter func40,ntmps40
 go_wp2_with (go_at_call 71;refine(hp _ H0).mono ?_;rintro e w1 ⟨y,rfl,⟨f,kb,g0,n0,c0,hq,rfl⟩,g1,a⟩;obtain⟨d0,d1,d2,dz⟩:=(E6 w).of_heap (w':=w1) ((a.block w.heap.size σ ω).trans (Ze _ _ _ χ));obtain⟨k2,k3,kf⟩:=g1.cells;have i:w.heap.size+1<w1.heap.size:=(Zu a.size);have h:w.heap.size<w1.heap.size:=ω)
 refine Zb (v:=.tuple #[iu f kb g0 n0 c0,.int .i64 0,.int .i64 0]) ?_ rfl ⟨⟨f,kb,g0,n0,c0,_,w1,hq,χ,?_,?_,rfl⟩,?_⟩
 .simp[results,results40,go_sem,d0,d1,d2,h]
 .simp[World.setCell]
 .intro g hg j
  repeat (first|rw[Ze _ _ _ σ]|rw[Zf _ _ _ _ σ])
 .have hb:=kr a;exact(Δ hb)
def Ie (w w':World) (s:ByteArray) (e:Ending):Prop:=
 (200<s.size/\e=.returned (.tuple #[iu false false none 0 0,.int .i64 4,.int .i64 0])) \/
 (s.size<=200/\(∃ r',cz s.data.toList=.bad r'/\e=.returned (.tuple #[iu false false none 0 0,.int .i64 3,.int .i64 ((s.size-r'.length:Nat):Int)]))) \/
 (s.size<=200/\∃ p,cz s.data.toList=.ok p []/\20<aZ p.choices/\e=.returned (.tuple #[iu false false none 0 0,.int .i64 4,.int .i64 0])) \/
 (s.size<=200/\∃ p,cz s.data.toList=.ok p []/\aZ p.choices<=20/\∃ g0 n0 c0,dU w' (dn w.heap.size w') p.choices (.slice g0 n0 c0)/\e=.returned (.tuple #[iu p.front p.back g0 n0 c0,.int .i64 0,.int .i64 0]))
def me {l:List UInt8}{p:sT} (h:cz l=.ok p r):r=[]:=by
 unfold cz at h
 split at h
 .simp at h
 .split at h
  .injection h with _ e;exact e.symm
  .simp at h
variable (w s) in
def E8 (hT:iV w) (hs:s.size<=maxLen) :
  Calls prog 40 #[.string s] w λe w'=>Ie w w' s e/\Below w.heap.size w w':=by
 by_cases h2:200<s.size
 .exact(C9 w s hs h2).mono λe w' g=>⟨.inl ⟨h2,g.1⟩,g.2⟩
 .have a:s.size<=200:=ω;have hl:Ju 0 0 s.data.toList:=⟨ω,σ,ω,ω⟩
  have hp:=λw' hw=>wL w' (w.heap.size+1) s s.data.toList 0 0 hw hl
  cases hR:cz s.data.toList with
  |bad r'=>
   refine(E7 w s hT a r' (λ_=>True) (λ_ _ _ _ _=>True) (λw' hw=>(hp w' hw).mono λe w'' g=>?_)).mono λe w' g=>⟨.inr (.inl ⟨a,r',hR,g.1⟩),g.2⟩
   rw[hR] at g;obtain⟨x',⟨f,k,g0,n0,c0,he⟩,g⟩:=g;exact⟨x',trivial,⟨f,k,g0,n0,c0,trivial,he⟩,g⟩
  |ok p r'=>
   obtain rfl:=me hR;have hu:up 0 0 (aZ p.choices)=aZ p.choices:=by unfold up;omega
   have h:LU (w.heap.size+1) s s.data.toList [] 0 0 (λy=>y=((aZ p.choices:Nat):Int)) true (λw w' f k v=>f=p.front/\k=p.back/\dU w' (dn w.heap.size w') p.choices v):=λw' hw=>(hp w' hw).mono λe w'' g=>by
    rw[hR] at g;obtain⟨⟨g0,n0,c0,hq,he⟩,g⟩:=g;exact⟨_,hu,⟨_,_,g0,n0,c0,⟨rfl,rfl,hq⟩,he⟩,g⟩
   by_cases hx:20<aZ p.choices
   .exact(C_ w s hT a [] _ _ ω h).mono λe w' g=>⟨.inr (.inr (.inl ⟨a,p,hR,hx,g.1⟩)),g.2⟩
   .refine(Id w s hT a [] _ _ ω h).mono λe w' g=>⟨.inr (.inr (.inr ⟨a,p,hR,ω,?_⟩)),g.2⟩
    obtain⟨⟨f,k,g0,n0,c0,w1,w2,⟨rfl,rfl,hq⟩,i,m,hh,he⟩,-⟩:=g;refine⟨g0,n0,c0,hq.of_heap (λj hj hlt'=>?_),he⟩;have:=hj.1;exact⟨⟨ω,ω⟩,hh j ω hlt'⟩
def cell_of {cs:Array Value}{T:TypeId}{fr:Nat×Nat} (h:w.heap[g]?=some (.cells cs T fr)):w.cell? ⟨g,o,none⟩=cs[o]?:=by simp[cell?,h]
theorem db.cell {e:TypeId}{n cap:Nat} (h:db w S e size (.slice (some ⟨g,0,none⟩) n cap) n xs) (j:Nat) (hj:j<n*size):w.cell? ⟨g,j,none⟩=xs[j]?:=by
 obtain⟨h1,h2⟩:=h;rcases h2 with⟨h2,_⟩|⟨g',a,f,hv,hS,hh,hn,hm,hs,ht⟩
 .simp at h2
 .injection hv with hv _ _;injection hv with hv;injection hv with hv _ _;subst hv;rw[cell_of hh,<-ht,getElem?_take];simp[hj]
def db.form {e:TypeId} (h:db w S e size v n xs) (hn:0<n):∃ g cap,v=.slice (some ⟨g,0,none⟩) n cap/\S g/\n<=cap/\cap<=maxLen:=by
 obtain⟨h1,h2⟩:=h;rcases h2 with⟨_,h2⟩|⟨g',a,i,hv,hS,hh,f,hm,hs,ht⟩
 .omega
 .exact⟨g',a,hv,hS,f,hm⟩
structure cj where
 q0:Option Addr
 q1:Nat
 q2:Nat
 y0:Nat
 y1:Nat
 y2:Nat
 y3:Nat
 r0:Option Addr
 r1:Nat
 r2:Nat
def cj.cells (s:cj):List Value:=[.slice s.q0 s.q1 s.q2,.int .u64 s.y0,.int .u64 s.y1,.int .u64 s.y2,.int .u64 s.y3,.slice s.r0 s.r1 s.r2]
abbrev cj.val (s:cj):Value:=.agg #[.slice s.q0 s.q1 s.q2,.int .u64 s.y0,.int .u64 s.y1,.int .u64 s.y2,.int .u64 s.y3,.slice s.r0 s.r1 s.r2]
def Kf (vs:List cj) (k:Nat) (hk:k<vs.length):∀ j,j<6->((vs.map cj.cells).flatten)[k*6+j]?=(vs[k].cells)[j]?:=by
 induction vs generalizing k with
 |nil=>simp at hk
 |cons c cs ih=>
  intro j hj
  cases k with
  |zero=>
   simp only[map_cons,flatten_cons,Nat.zero_mul,Nat.zero_add,getElem_cons_zero];rw[Zo (by simp[cj.cells];omega)]
  |succ k=>
   have:=ih k (by simpa using hk) j hj;have e1:(k+1)*6+j=(k*6+j)+6:=ω;simp only[e1,map_cons,flatten_cons,getElem_cons_succ];rw[getElem?_append_right (by simp[cj.cells])];have e2:k*6+j+6-c.cells.length=k*6+j:=by simp[cj.cells]
   rw[e2];exact this
end Go.Proofs.YtbjabpodkaokjaaGreatDoor.Sx
